import PyProof.Rows.All
import Wide.All
import OpenK.AllK
import Wide.FinOn
import HandS.ForMost
import HandS.Exc
import HandS.ExcOwn
import HandS.Star
import HandS.IsInst
import HandS.Wide
import HandS.WideMore
import HandS.WideBits
import HandS.Zip
import HandS.Defaults
import HandS.Lambda
import HandS.TupAny
import HandS.TupMul
import KE.DatumIndex
import HandS.RaiseMore
import HandS.NoneIn
import HandS.EndTab
import KE.KNestM
import HandS.ExcInit
import KE.KExcInit
import HandS.Codes
import HandS.ExcBuiltin
import HandS.WordsExc
import HandS.TryMany
import HandS.ExcIs
import HandS.ExcField
import KE.KExcIs
import HandS.Style
import HandS.TupLe
import HandS.SetFor
import HandS.Conv
import HandS.FStr
import HandS.Iter
import KE.GoesEnum
import KE.GoesMore
import PyProof.EnumMake
import HandS.Dict
import HandS.Zip0
import HandS.ListItems
import KE.KDictZip
import PySem.Challenge.RW_wordlaws_k14_whole_products
import PyProof.StrLawsRepr
import HandS.Text
set_option Elab.async false
set_option linter.all false
set_option maxRecDepth 100000
namespace Z
open PySem PySem.Spec PyProof.Rows L2

/-! ## Data in the abstract heap, apart from the addresses that a store owns -/
/-- o: what the store owns; g: what nobody may touch or name for a while -/
structure Ow where
  o : List Addr
  g : List Addr
def Ow.no (f : Ow) (a : Addr) : Prop := a ∉ f.o ∧ a ∉ f.g
/-- .. and it is not the modules' dict -/
def Ow.nx (f : Ow) (a : Addr) : Prop := a ∉ f.o ∧ a ∉ f.g ∧ a ≠ sysModules
theorem Ow.nx.no {f : Ow} {a : Addr} (h : f.nx a) : f.no a := ⟨h.1, h.2.1⟩
theorem Ow.no.nx {f : Ow} {a : Addr} (h : f.no a) (n : a ≠ sysModules) : f.nx a := ⟨h.1, h.2, n⟩
def Ow.add (f : Ow) (ex : List Addr) : Ow := ⟨f.o ++ ex, f.g⟩
def Ow.ban (f : Ow) (a : Addr) : Ow := ⟨f.o, a :: f.g⟩
theorem Ow.add_nil (f : Ow) : f.add [] = f := by
  cases f; unfold Ow.add; rw [List.append_nil]
theorem Ow.add_add (f : Ow) (x y : List Addr) : (f.add x).add y = f.add (x ++ y) := by
  cases f; unfold Ow.add; rw [List.append_assoc]
theorem Ow.no_add {f : Ow} {ex : List Addr} {a : Addr} (h : f.no a) (n : a ∉ ex) : (f.add ex).no a :=
  ⟨fun m => (List.mem_append.mp m).elim h.1 n, h.2⟩
theorem Ow.no_of_add {f : Ow} {ex : List Addr} {a : Addr} (h : (f.add ex).no a) : f.no a := ⟨fun m => h.1 (List.mem_append_left _ m), h.2⟩
theorem Ow.no_ban {f : Ow} {D a : Addr} (h : f.no a) (n : a ≠ D) : (f.ban D).no a := ⟨h.1, fun m => (List.mem_cons.mp m).elim n h.2⟩
theorem Ow.no_of_ban {f : Ow} {D a : Addr} (h : (f.ban D).no a) : f.no a := ⟨h.1, fun m => h.2 (List.mem_cons_of_mem _ m)⟩
def kd : Key → PyData
  | .inl i => .int i
  | .inr x => .str x
/-- a list's items may be read at a, and nobody who owns will change them -/
def LL (K : PySem.W.Frag) (f : Ow) (H : Hp) (a : Addr) (xs : List V) : Prop := H a = some (.lst xs) ∧ f.nx a
/-- a list from outside, read only -/
def LS (K : PySem.W.Frag) (f : Ow) (H : Hp) (a : Addr) (xs : List V) : Prop :=
  (Rd H a (.lst xs) ∧ f.no a) ∨ (∃ o its n, List.lookup a K = some o ∧ o.cls = Value.type "list" ∧ o.dict = none ∧
    o.data = Data.seq its n ∧ its.size ≤ sizeLine ∧ Vals xs its.toList)
def LT (K : PySem.W.Frag) (f : Ow) (H : Hp) (a : Addr) (xs : List V) : Prop :=
  (Rd H a (.tup xs) ∧ f.nx a) ∨ (∃ o its n, List.lookup a K = some o ∧ o.cls = Value.type "tuple" ∧
    o.data = Data.seq its n ∧ its.size ≤ sizeLine ∧ Vals xs its.toList)
theorem LL.sq {K : PySem.W.Frag} {f : Ow} {H : Hp} {a : Addr} {xs : List V} (h : LL K f H a xs) : SqL K H a xs := .inl (.inl h.1)
theorem LS.sq {K : PySem.W.Frag} {f : Ow} {H : Hp} {a : Addr} {xs : List V} (h : LS K f H a xs) : SqL K H a xs :=
  h.imp (fun z => z.1) id
theorem LT.sq {K : PySem.W.Frag} {f : Ow} {H : Hp} {a : Addr} {xs : List V} (h : LT K f H a xs) : SqT K H a xs :=
  h.imp (fun z => z.1) id

mutual
inductive Is (K : PySem.W.Frag) (f : Ow) (H : Hp) : V → PyData → Prop
  | non : Is K f H .non .none
  | bl (b : Bool) : Is K f H (.bl b) (.bool b)
  | int (i : Int) : Is K f H (.int i) (.int i)
  | str (x : Str) : Is K f H (.str x) (.str x)
  | lst {a : Addr} {xs : List V} {ds : List PyData} : LL K f H a xs → IsAll K f H xs ds → Is K f H (.ref a) (.list ds)
  | tup {a : Addr} {xs : List V} {ds : List PyData} : LT K f H a xs → IsAll K f H xs ds → Is K f H (.ref a) (.tuple ds)
  | dic {a : Addr} {kvs : List (Key × V)} {ds : List (PyData × PyData)} : Rd H a (.dK kvs) → f.nx a → IsKv K f H kvs ds → Is K f H (.ref a) (.dict ds)
inductive IsAll (K : PySem.W.Frag) (f : Ow) (H : Hp) : List V → List PyData → Prop
  | nil : IsAll K f H [] []
  | cons {v : V} {vs : List V} {d : PyData} {ds : List PyData} : Is K f H v d → IsAll K f H vs ds → IsAll K f H (v :: vs) (d :: ds)
inductive IsKv (K : PySem.W.Frag) (f : Ow) (H : Hp) : List (Key × V) → List (PyData × PyData) → Prop
  | nil : IsKv K f H [] []
  | cons {k : Key} {v : V} {vs : List (Key × V)} {d : PyData} {ds : List (PyData × PyData)} : Is K f H v d → IsKv K f H vs ds → IsKv K f H ((k, v) :: vs) ((kd k, d) :: ds)
end

/-- what is not owned stays; what is neither owned nor banned stays -/
def Kp (f : Ow) (H H' : Hp) : Prop := ∀ a o, a ∉ f.o → H a = some o → H' a = some o
def Kq (f : Ow) (H H' : Hp) : Prop := ∀ a o, f.no a → H a = some o → H' a = some o
theorem Kp.q {f : Ow} {H H' : Hp} (k : Kp f H H') : Kq f H H' := fun a o n e => k a o n.1 e
theorem Kp.refl (f : Ow) (H : Hp) : Kp f H H := fun _ _ _ h => h
theorem Kq.refl (f : Ow) (H : Hp) : Kq f H H := fun _ _ _ h => h
theorem Kp.trans {f : Ow} {H H1 H2 : Hp} (a : Kp f H H1) (b : Kp f H1 H2) : Kp f H H2 := fun c o n h => b c o n (a c o n h)
theorem Kp.new {f : Ow} {H : Hp} {p : Addr} {o : HO} (h : H p = none) : Kp f H (upd H p o) := fun a u _ e => by
  rw [upd_ne (ne_of_none e h)]; exact e
theorem Kp.of_same {f : Ow} {H H' : Hp} (h : Same H H') : Kp f H H' := fun a o _ e => h a o e
theorem Rd.kq {f : Ow} {H H' : Hp} {a : Addr} {u : HO} (h : Rd H a u) (n : f.no a) (k : Kq f H H') : Rd H' a u := by
  rcases h with h | ⟨o, h⟩
  · exact .inl (k _ _ n h)
  · exact .inr ⟨o, k _ _ n h⟩
theorem Rd.ne {H : Hp} {a : Addr} {u : HO} (h : Rd H a u) : ∃ o, H a = some o := by
  rcases h with h | ⟨o, h⟩
  · exact ⟨_, h⟩
  · exact ⟨_, h⟩
/-- f' bans and owns beside f only what was free -/
def Gr (f f' : Ow) (H : Hp) : Prop := ∀ a o, f.no a → H a = some o → f'.no a
theorem Gr.refl (f : Ow) (H : Hp) : Gr f f H := fun _ _ h _ => h
theorem Gr.app {f : Ow} {g : List Addr} {H : Hp} (h : ∀ a ∈ g, H a = none) : Gr f (f.add g) H := fun a o n e => Ow.no_add n fun m => by
  rw [h a m] at e; cases e
theorem Gr.sub {f : Ow} {g : List Addr} {H : Hp} : Gr (f.add g) f H := fun _ _ n _ => Ow.no_of_add n
theorem Gr.ban {f : Ow} {D : Addr} {H : Hp} (h : H D = none) : Gr f (f.ban D) H := fun a o n e => Ow.no_ban n (ne_of_none e h)
theorem Gr.unban {f : Ow} {D : Addr} {H : Hp} : Gr (f.ban D) f H := fun _ _ n _ => Ow.no_of_ban n

section
variable {K : PySem.W.Frag} {f f' : Ow} {H H' : Hp}
theorem LL.keep {a : Addr} {xs : List V} (h : LL K f H a xs) (k : Kq f H H') (g : Gr f f' H) : LL K f' H' a xs :=
  ⟨k _ _ h.2.no h.1, (g _ _ h.2.no h.1).nx h.2.2.2⟩
theorem LS.keep {a : Addr} {xs : List V} (h : LS K f H a xs) (k : Kq f H H') (g : Gr f f' H) : LS K f' H' a xs := by
  rcases h with ⟨h, n⟩ | h
  · obtain ⟨o, e⟩ := Rd.ne h
    exact .inl ⟨Rd.kq h n k, g a o n e⟩
  · exact .inr h
theorem LT.keep {a : Addr} {xs : List V} (h : LT K f H a xs) (k : Kq f H H') (g : Gr f f' H) : LT K f' H' a xs := by
  rcases h with ⟨h, n⟩ | h
  · obtain ⟨o, e⟩ := Rd.ne h
    exact .inl ⟨Rd.kq h n.no k, (g a o n.no e).nx n.2.2⟩
  · exact .inr h
mutual
theorem Is.keep (k : Kq f H H') (g : Gr f f' H) : ∀ {v : V} {d : PyData}, Is K f H v d → Is K f' H' v d
  | _, _, .non => .non
  | _, _, .bl b => .bl b
  | _, _, .int i => .int i
  | _, _, .str x => .str x
  | _, _, .lst h r => .lst (h.keep k g) (IsAll.keep k g r)
  | _, _, .tup h r => .tup (h.keep k g) (IsAll.keep k g r)
  | _, _, .dic h n r => .dic (Rd.kq h n.no k) (let ⟨o, e⟩ := Rd.ne h; (g _ o n.no e).nx n.2.2) (IsKv.keep k g r)
theorem IsAll.keep (k : Kq f H H') (g : Gr f f' H) : ∀ {v : List V} {d : List PyData}, IsAll K f H v d → IsAll K f' H' v d
  | _, _, .nil => .nil
  | _, _, .cons h r => .cons (Is.keep k g h) (IsAll.keep k g r)
theorem IsKv.keep (k : Kq f H H') (g : Gr f f' H) : ∀ {v : List (Key × V)} {d : List (PyData × PyData)}, IsKv K f H v d → IsKv K f' H' v d
  | _, _, .nil => .nil
  | _, _, .cons h r => .cons (Is.keep k g h) (IsKv.keep k g r)
end
theorem IsAll.len : ∀ {vs : List V} {ds : List PyData}, IsAll K f H vs ds → vs.length = ds.length
  | _, _, .nil => rfl
  | _, _, .cons _ r => congrArg (· + 1) (IsAll.len r)
theorem IsAll.get : ∀ {vs : List V} {ds : List PyData} {i : Nat} {d : PyData}, IsAll K f H vs ds → ds[i]? = some d → ∃ v, vs[i]? = some v ∧ Is K f H v d
  | _, _, _, _, .nil, e => by simp at e
  | _, _, 0, _, .cons h _, e => by
    simp at e; subst e; exact ⟨_, rfl, h⟩
  | _, _, i + 1, d, .cons _ r, e => by
    obtain ⟨v, h1, h2⟩ := IsAll.get (i := i) (d := d) r (by simpa using e)
    exact ⟨v, by simpa using h1, h2⟩
theorem IsAll.app : ∀ {vs ws : List V} {ds es : List PyData}, IsAll K f H vs ds → IsAll K f H ws es → IsAll K f H (vs ++ ws) (ds ++ es)
  | _, _, _, _, .nil, s => s
  | _, _, _, _, .cons h r, s => .cons h (IsAll.app r s)
theorem IsAll.set : ∀ {vs : List V} {ds : List PyData} {v : V} {d : PyData} (i : Nat), IsAll K f H vs ds → Is K f H v d → IsAll K f H (vs.set i v) (ds.set i d)
  | _, _, _, _, _, .nil, _ => .nil
  | _, _, _, _, 0, .cons _ r, h => .cons h r
  | _, _, _, _, i + 1, .cons q r, h => .cons q (IsAll.set i r h)
theorem IsAll.take : ∀ {vs : List V} {ds : List PyData} (n : Nat), IsAll K f H vs ds → IsAll K f H (vs.take n) (ds.take n)
  | _, _, 0, _ => .nil
  | _, _, _ + 1, .nil => .nil
  | _, _, n + 1, .cons h r => .cons h (IsAll.take n r)
theorem IsAll.drop : ∀ {vs : List V} {ds : List PyData} (n : Nat), IsAll K f H vs ds → IsAll K f H (vs.drop n) (ds.drop n)
  | _, _, 0, r => r
  | _, _, _ + 1, .nil => .nil
  | _, _, n + 1, .cons _ r => IsAll.drop n r
theorem IsAll.ints : ∀ {vs : List V} {ns : List Int}, IsAll K f H vs (ns.map .int) → vs = ns.map V.int
  | _, [], .nil => rfl
  | _, n :: ns, .cons (.int _) r => congrArg (V.int n :: ·) (IsAll.ints r)
theorem IsAll.of_ints : ∀ ns : List Int, IsAll K f H (ns.map V.int) (ns.map .int)
  | [] => .nil
  | n :: ns => .cons (.int n) (IsAll.of_ints ns)
theorem IsAll.bools : ∀ {vs : List V} {ns : List Bool}, IsAll K f H vs (ns.map .bool) → vs = ns.map V.bl
  | _, [], .nil => rfl
  | _, n :: ns, .cons (.bl _) r => congrArg (V.bl n :: ·) (IsAll.bools r)

/-! ## to the layer's Dp -/
def noDict : PyData → Bool
  | .dict _ => false
  | _ => true
mutual
theorem Is.dp : ∀ {d : PyData} {v : V}, Is K f H v d → d.hasDict = false → Dp K H v d
  | .none, _, h, _ => by cases h; exact .non
  | .bool b, _, h, _ => by cases h; exact .bl b
  | .int i, _, h, _ => by cases h; exact .int i
  | .str x, _, h, _ => by cases h; exact .str x
  | .list ds, _, h, n => by
    cases h with
    | lst h r => exact .lst h.sq (IsAll.dp r (by simpa [PyData.hasDict] using n))
  | .tuple ds, _, h, n => by
    cases h with
    | tup h r => exact .tup h.sq (IsAll.dp r (by simpa [PyData.hasDict] using n))
  | .dict _, _, h, n => by simp [PyData.hasDict] at n
theorem IsAll.dp : ∀ {ds : List PyData} {vs : List V}, IsAll K f H vs ds → PyData.hasDictAll ds = false → DpAll K H vs ds
  | [], _, h, _ => by cases h; exact .nil
  | d :: ds, _, h, n => by
    cases h with
    | cons h r =>
      have n' : d.hasDict = false ∧ PyData.hasDictAll ds = false := by simpa [PyData.hasDictAll] using n
      exact .cons (Is.dp h n'.1) (IsAll.dp r n'.2)
end
end

/-! ## Slots and stores -/
/-- an exception: its class by name, what it keeps -/
structure Exn where
  cls : Str
  fld : Option (Str × PyData)
inductive Ob where
  | lst (xs : List PyData)
  | dct (kvs : List (Key × PyData))
  | tab (q : Str) (P : Addr)
abbrev Sto := List Ob
inductive Res (α : Type) where
  | ok (a : α) (S : Sto)
  | exc (x : Exn) (S : Sto)
/-- a lambda's meaning where it was made -/
abbrev Th := Sto → Option (Res PyData)
inductive SV where
  | d (x : PyData)
  | r (i : Nat)
  | s (ns : List Int)
  | k (a : Addr) (x : Exn) (cls : Value) (d : Option Addr)
  | t (p c : Addr) (q : Str) (tl : XK → Hp → VK → Prop) (th : Th)
abbrev Sg := List (Option SV)
inductive IsKd (K : PySem.W.Frag) (f : Ow) (H : Hp) : List (Key × V) → List (Key × PyData) → Prop
  | nil : IsKd K f H [] []
  | cons {k : Key} {v : V} {vs : List (Key × V)} {d : PyData} {ds : List (Key × PyData)} : Is K f H v d → IsKd K f H vs ds → IsKd K f H ((k, v) :: vs) ((k, d) :: ds)
def ObAt (K : PySem.W.Frag) (f : Ow) (H : Hp) (a : Addr) : Ob → Prop
  | .lst ds => ∃ vs, H a = some (.lst vs) ∧ IsAll K f H vs ds
  | .dct ds => ∃ kvs, H a = some (.dK kvs) ∧ IsKd K f H kvs ds
  | .tab q P => a = P ∧ ∃ ps, H a = some (.tbl ps) ∧ TriplesOk ps.toList ∧ ∀ pos cv, codeAmong pos ps.toList = some cv → ∃ c, cv = .ref c ∧ H c = some (LamX.CodeO c q) ∧ f.nx c
structure StoR (K : PySem.W.Frag) (f : Ow) (S : Sto) (H : Hp) : Prop where
  len : f.o.length = S.length
  nd : f.o.Nodup
  at_ : ∀ (i : Nat) (o : Ob) (a : Addr), S[i]? = some o → f.o[i]? = some a → ObAt K f H a o
  dj : ∀ a ∈ f.g, a ∉ f.o
  tr : ∀ a ∈ f.g, ∃ o, H a = some o
  sy : sysModules ∉ f.o ∧ ∃ o, H sysModules = some o
/-- how an exception stands in the heap -/
def ExR (K : PySem.W.Frag) (f : Ow) (H : Hp) (cls : Value) (d : Option Addr) (x : Exn) : Prop :=
  PySem.W.nsIn K mainGlobals x.cls = some (some cls) ∧ match x.fld with
    | none => d = none
    | some (n, dd) => ∃ da v, d = some da ∧ H da = some (.xd [(n, v)]) ∧ f.nx da ∧ Is K f H v dd
theorem ExR.keep {K : PySem.W.Frag} {f f' : Ow} {H H' : Hp} {cls : Value} {d : Option Addr} {x : Exn} (h : ExR K f H cls d x) (k : Kq f H H') (g : Gr f f' H) : ExR K f' H' cls d x := by
  obtain ⟨c, fl⟩ := x
  cases fl with
  | none => exact h
  | some q =>
    obtain ⟨n, dd⟩ := q
    obtain ⟨h1, da, v, e1, e2, e3, e4⟩ := h
    exact ⟨h1, da, v, e1, k _ _ e3.no e2, (g _ _ e3.no e2).nx e3.2.2, Is.keep k g e4⟩
/-- f' owns first what f owns -/
def Pf (f f' : Ow) : Prop := ∀ (i : Nat) (a : Addr), f.o[i]? = some a → f'.o[i]? = some a
theorem Pf.trans {f f' f'' : Ow} (a : Pf f f') (b : Pf f' f'') : Pf f f'' := fun i x e => b i x (a i x e)
/-- what the lambda's reading gives for its meaning -/
def ThR (K : PySem.W.Frag) (f : Ow) (H : Hp) (tl : XK → Hp → VK → Prop) (th : Th) : Prop := ∀ (f2 : Ow) (H2 : Hp) (S2 : Sto) (r : Res PyData) (E : XK) (Q : VK), Kq f H H2 → Gr f f2 H → Pf f f2 → StoR K f2 S2 H2 → th S2 = some r →
  (match r with
    | .ok v S3 => ∀ u H3, StoR K f2 S3 H3 → Kp f2 H2 H3 → Is K f2 H3 u v → Q u H3
    | .exc x S3 => ∀ cls d H3, StoR K f2 S3 H3 → Kp f2 H2 H3 → ExR K f2 H3 cls d x → E cls d H3) → tl E H2 Q
theorem ThR.keep {K : PySem.W.Frag} {f f' : Ow} {H H' : Hp} {tl : XK → Hp → VK → Prop} {th : Th} (h : ThR K f H tl th) (k : Kq f H H') (g : Gr f f' H) (p : Pf f f') : ThR K f' H' tl th := fun f2 H2 S2 r E Q k2 g2 p2 hS he hr =>
  h f2 H2 S2 r E Q (fun a o n e => k2 a o (g a o n e) (k a o n e)) (fun a o n e => g2 a o (g a o n e) (k a o n e)) (p.trans p2) hS he hr
def SvR (K : PySem.W.Frag) (f : Ow) (H : Hp) (v : V) : SV → Prop
  | .d x => Is K f H v x
  | .r i => ∃ a, f.o[i]? = some a ∧ v = .ref a
  | .s ns => ∃ a, v = .ref a ∧ LS K f H a (ns.map V.int)
  | .k a x cls d => v = .ref a ∧ ExR K f H cls d x
  | .t p c q tl th => v = .ref p ∧ H c = some (LamX.CodeO c q) ∧ f.nx c ∧ ThR K f H tl th
/-- the frame's slots -/
structure EnvR (K : PySem.W.Frag) (f : Ow) (H : Hp) (sv : L2.St) (σ : Sg) : Prop where
  len : sv.length = σ.length
  get : ∀ (i : Nat) (x : SV), σ[i]? = some (some x) → ∃ v, sv[i]? = some (some v) ∧ SvR K f H v x
section
variable {K : PySem.W.Frag} {f f' : Ow} {H H' : Hp}
theorem app_get {f ex : List Addr} {i : Nat} {a : Addr} (e : f[i]? = some a) : (f ++ ex)[i]? = some a := by
  rw [List.getElem?_append_left (List.getElem?_eq_some_iff.mp e).1]; exact e
theorem Pf.refl (f : Ow) : Pf f f := fun _ _ e => e
theorem Pf.add (f : Ow) (ex : List Addr) : Pf f (f.add ex) := fun _ _ e => app_get e
theorem Pf.ban (f : Ow) (D : Addr) : Pf f (f.ban D) := fun _ _ e => e
theorem Pf.unban (f : Ow) (D : Addr) : Pf (f.ban D) f := fun _ _ e => e
theorem SvR.keep {v : V} {x : SV} (h : SvR K f H v x) (k : Kq f H H') (g : Gr f f' H) (p : Pf f f') : SvR K f' H' v x := by
  cases x with
  | d x => exact Is.keep k g h
  | r i =>
    obtain ⟨a, e, h⟩ := h
    exact ⟨a, p i a e, h⟩
  | s ns =>
    obtain ⟨a, e, h⟩ := h
    exact ⟨a, e, h.keep k g⟩
  | k a x cls d => exact ⟨h.1, h.2.keep k g⟩
  | t q c nm tl th => exact ⟨h.1, k _ _ h.2.2.1.no h.2.1, (g _ _ h.2.2.1.no h.2.1).nx h.2.2.1.2.2, h.2.2.2.keep k g p⟩
theorem SvR.kp {v : V} {x : SV} (h : SvR K f H v x) (k : Kp f H H') : SvR K f H' v x := h.keep k.q (Gr.refl _ _) (Pf.refl _)
theorem EnvR.keep {sv : L2.St} {σ : Sg} (h : EnvR K f H sv σ) (k : Kq f H H') (g : Gr f f' H) (p : Pf f f') : EnvR K f' H' sv σ :=
  ⟨h.len, fun i x e => let ⟨v, e1, r⟩ := h.get i x e; ⟨v, e1, r.keep k g p⟩⟩
theorem EnvR.kp {sv : L2.St} {σ : Sg} (h : EnvR K f H sv σ) (k : Kp f H H') : EnvR K f H' sv σ := h.keep k.q (Gr.refl _ _) (Pf.refl _)
theorem IsKd.keep (k : Kq f H H') (g : Gr f f' H) : ∀ {v : List (Key × V)} {d : List (Key × PyData)}, IsKd K f H v d → IsKd K f' H' v d
  | _, _, .nil => .nil
  | _, _, .cons h r => .cons (Is.keep k g h) (IsKd.keep k g r)
theorem ObAt.keep {a : Addr} {o : Ob} (h : ObAt K f H a o) (e : H' a = H a) (k : Kq f H H') (g : Gr f f' H) : ObAt K f' H' a o := by
  cases o with
  | lst ds =>
    obtain ⟨vs, h1, h2⟩ := h
    exact ⟨vs, e.trans h1, h2.keep k g⟩
  | dct ds =>
    obtain ⟨vs, h1, h2⟩ := h
    exact ⟨vs, e.trans h1, h2.keep k g⟩
  | tab q P =>
    obtain ⟨h0, ps, h1, h2, h3⟩ := h
    refine ⟨h0, ps, e.trans h1, h2, fun pos cv hc => ?_⟩
    obtain ⟨c, e1, e2, e3⟩ := h3 pos cv hc
    exact ⟨c, e1, k _ _ e3.no e2, (g _ _ e3.no e2).nx e3.2.2⟩
/-- an owned address holds something -/
theorem StoR.some_ {S : Sto} (h : StoR K f S H) {a : Addr} (m : a ∈ f.o) : ∃ o, H a = some o := by
  obtain ⟨i, hi, e⟩ := List.getElem_of_mem m
  have e1 : f.o[i]? = some a := by rw [List.getElem?_eq_getElem hi, e]
  have hi2 : i < S.length := h.len ▸ hi
  have q := h.at_ i S[i] a (List.getElem?_eq_getElem hi2) e1
  generalize S[i] = o at q
  cases o with
  | lst ds => obtain ⟨_, z, _⟩ := q; exact ⟨_, z⟩
  | dct ds => obtain ⟨_, z, _⟩ := q; exact ⟨_, z⟩
  | tab t P => obtain ⟨_, _, z, _⟩ := q; exact ⟨_, z⟩
theorem StoR.free {S : Sto} (h : StoR K f S H) {p : Addr} (n : H p = none) : f.nx p := by
  refine ⟨fun m => ?_, fun m => ?_, fun m => ?_⟩
  · obtain ⟨o, e⟩ := h.some_ m
    rw [n] at e; cases e
  · obtain ⟨o, e⟩ := h.tr p m
    rw [n] at e; cases e
  · obtain ⟨o, e⟩ := h.sy.2
    rw [← m, n] at e; cases e
/-- an object is laid that no store owns -/
theorem StoR.laid {S : Sto} (h : StoR K f S H) {p : Addr} {o : HO} (n : H p = none) : StoR K f S (upd H p o) :=
  ⟨h.len, h.nd, fun i ob a e1 e2 => (h.at_ i ob a e1 e2).keep (upd_ne (fun z => (h.free n).1 (z ▸ List.mem_of_getElem? e2))) (Kp.new n).q (Gr.refl _ _), h.dj, fun a m => by
    obtain ⟨x, e⟩ := h.tr a m
    exact ⟨x, Kp.new n a x (h.dj a m) e⟩, h.sy.1, let ⟨x, e⟩ := h.sy.2; ⟨x, Kp.new n _ x h.sy.1 e⟩⟩
/-- .. that the store owns -/
theorem StoR.own {S : Sto} (h : StoR K f S H) {p : Addr} {o : HO} {ob : Ob} (n : H p = none) (q : ObAt K (f.add [p]) (upd H p o) p ob) : StoR K (f.add [p]) (S ++ [ob]) (upd H p o) := by
  have np : ∀ b ∈ [p], H b = none := fun b hb => by
    have e : b = p := by simpa using hb
    rw [e]; exact n
  refine ⟨by simp [Ow.add, h.len], ?_, fun i u a e1 e2 => ?_, fun a m z => ?_, fun a m => ?_, (fun z => (List.mem_append.mp (show sysModules ∈ f.o ++ [p] from z)).elim h.sy.1 fun z => (h.free n).2.2 (List.mem_singleton.mp z).symm), let ⟨x, e⟩ := h.sy.2; ⟨x, Kp.new n _ x h.sy.1 e⟩⟩
  · refine List.nodup_append.mpr ⟨h.nd, by simp, fun a ha b hb => ?_⟩
    have e : b = p := by simpa using hb
    subst e
    exact fun z => (h.free n).1 (z ▸ ha)
  · have e2 : (f.o ++ [p])[i]? = some a := e2
    by_cases hi : i < f.o.length
    · rw [List.getElem?_append_left hi] at e2
      rw [List.getElem?_append_left (h.len ▸ hi)] at e1
      exact (h.at_ i u a e1 e2).keep (upd_ne (fun z => (h.free n).1 (z ▸ List.mem_of_getElem? e2))) (Kp.new n).q (Gr.app np)
    · rw [List.getElem?_append_right (by omega)] at e2
      rw [List.getElem?_append_right (by rw [← h.len]; omega)] at e1
      have hi2 : i - f.o.length = 0 := by
        have := (List.getElem?_eq_some_iff.mp e2).1
        simp at this
        omega
      rw [hi2] at e2
      rw [← h.len, hi2] at e1
      simp at e1 e2
      subst e1 e2
      exact q
  · rcases List.mem_append.mp z with z | z
    · exact h.dj a m z
    · have e : a = p := by simpa using z
      exact (h.free n).2.1 (e ▸ m)
  · obtain ⟨x, e⟩ := h.tr a m
    exact ⟨x, Kp.new n a x (h.dj a m) e⟩
/-- an owned object is changed -/
theorem StoR.put {S : Sto} (h : StoR K f S H) {i : Nat} {p : Addr} {o : HO} {ob : Ob} (e : f.o[i]? = some p) (q : ObAt K f (upd H p o) p ob) : StoR K f (S.set i ob) (upd H p o) := by
  have kp : Kp f H (upd H p o) := fun b x nb eb => by
    have hb : b ≠ p := fun z => nb (by rw [z]; exact List.mem_of_getElem? e)
    rw [upd_ne hb]
    exact eb
  refine ⟨by simp [h.len], h.nd, fun j u a e1 e2 => ?_, h.dj, fun a m => let ⟨x, ex⟩ := h.tr a m; ⟨x, kp a x (h.dj a m) ex⟩, h.sy.1, let ⟨x, ex⟩ := h.sy.2; ⟨x, kp _ x h.sy.1 ex⟩⟩
  by_cases hj : i = j
  · subst hj
    rw [e] at e2; cases e2
    have hi : i < S.length := h.len ▸ (List.getElem?_eq_some_iff.mp e).1
    rw [List.getElem?_set_self hi] at e1
    cases e1
    exact q
  · rw [List.getElem?_set_ne hj] at e1
    have hne : a ≠ p := fun z => hj (nd_ix h.nd e (z ▸ e2))
    exact (h.at_ j u a e1 e2).keep (upd_ne hne) kp.q (Gr.refl _ _)
theorem Kp.put {i : Nat} {p : Addr} {o : HO} (e : f.o[i]? = some p) : Kp f H (upd H p o) := fun b x nb eb => by
  have hb : b ≠ p := fun z => nb (by rw [z]; exact List.mem_of_getElem? e)
  rw [upd_ne hb]; exact eb
/-- a banned object is changed: nobody looks -/
theorem StoR.sly {S : Sto} {D : Addr} {x y : HO} (h : StoR K (f.ban D) S H) (e : H D = some x) : StoR K (f.ban D) S (upd H D y) := by
  have hD : D ∉ f.o := h.dj D List.mem_cons_self
  have kq : Kq (f.ban D) H (upd H D y) := fun a o n ea => by
    have ne : a ≠ D := fun z => n.2 (by rw [z]; exact List.mem_cons_self)
    rw [upd_ne ne]; exact ea
  refine ⟨h.len, h.nd, fun i ob a e1 e2 => (h.at_ i ob a e1 e2).keep (upd_ne fun z => hD (z ▸ List.mem_of_getElem? e2)) kq (Gr.refl _ _), h.dj, fun a m => ?_, h.sy.1, (by
    by_cases hs : sysModules = D
    · exact ⟨y, by rw [hs, upd_same]⟩
    · obtain ⟨z, ez⟩ := h.sy.2
      exact ⟨z, by rw [upd_ne hs]; exact ez⟩)⟩
  by_cases ha : a = D
  · subst ha; exact ⟨y, upd_same⟩
  · obtain ⟨z, ez⟩ := h.tr a m
    exact ⟨z, by rw [upd_ne ha]; exact ez⟩
theorem Kq.sly {D : Addr} {y : HO} : Kq (f.ban D) H (upd H D y) := fun a o n ea => by
  have ne : a ≠ D := fun z => n.2 (by rw [z]; exact List.mem_cons_self)
  rw [upd_ne ne]; exact ea
/-- a new object is banned -/
theorem StoR.ban {S : Sto} {D : Addr} {x : HO} (h : StoR K f S H) (n : H D = none) : StoR K (f.ban D) S (upd H D x) := by
  refine ⟨h.len, h.nd, fun i ob a e1 e2 => (h.at_ i ob a e1 e2).keep (upd_ne (fun z => (h.free n).1 (z ▸ List.mem_of_getElem? e2))) (Kp.new n).q (Gr.ban n), fun a m z => ?_, fun a m => ?_, h.sy.1, let ⟨x, e⟩ := h.sy.2; ⟨x, Kp.new (f := f) n _ x h.sy.1 e⟩⟩
  · rcases List.mem_cons.mp m with m | m
    · exact (h.free n).1 (m ▸ z)
    · exact h.dj a m z
  · rcases List.mem_cons.mp m with m | m
    · subst m; exact ⟨x, upd_same⟩
    · obtain ⟨z, e⟩ := h.tr a m
      exact ⟨z, Kp.new (f := f) n a z (h.dj a m) e⟩
theorem StoR.unban {S : Sto} {D : Addr} (h : StoR K (f.ban D) S H) : StoR K f S H :=
  ⟨h.len, h.nd, fun i ob a e1 e2 => (h.at_ i ob a e1 e2).keep rfl (Kq.refl _ _) Gr.unban, fun a m => h.dj a (List.mem_cons_of_mem _ m), fun a m => h.tr a (List.mem_cons_of_mem _ m), h.sy⟩
theorem StoR.has {S : Sto} (h : StoR K f S H) {i : Nat} {o : Ob} (e1 : S[i]? = some o) : ∃ a, f.o[i]? = some a := by
  have hi : i < f.o.length := h.len ▸ (List.getElem?_eq_some_iff.mp e1).1
  exact ⟨f.o[i], List.getElem?_eq_getElem hi⟩
/-- the store's end is given up -/
theorem StoR.cut {S : Sto} {ex : List Addr} (h : StoR K (f.add ex) S H) : StoR K f (S.take f.o.length) H := by
  have hl : f.o.length ≤ S.length := by rw [← h.len]; simp [Ow.add]
  refine ⟨by simp [hl], (List.nodup_append.mp h.nd).1, fun i o a e1 e2 => ?_, fun a m z => h.dj a m (List.mem_append_left _ z), h.tr, fun z => h.sy.1 (List.mem_append_left _ z), h.sy.2⟩
  have hi := (List.getElem?_eq_some_iff.mp e2).1
  rw [List.getElem?_take_of_lt hi] at e1
  exact (h.at_ i o a e1 (app_get e2)).keep rfl (Kq.refl _ _) Gr.sub
/-- .. but for one object of it -/
theorem StoR.cut1 {S : Sto} {ex : List Addr} {i : Nat} {o : Ob} {p : Addr} (h : StoR K (f.add ex) S H) (e : S[i]? = some o) (ep : (f.o ++ ex)[i]? = some p) (hi : f.o.length ≤ i) : StoR K (f.add [p]) (S.take f.o.length ++ [o]) H := by
  have c := h.cut
  have hp : p ∈ ex := by
    rw [List.getElem?_append_right hi] at ep
    exact List.mem_of_getElem? ep
  have gr : Gr (f.add ex) (f.add [p]) H := fun a x n _ => ⟨fun m => by
    rcases List.mem_append.mp m with m | m
    · exact n.1 (List.mem_append_left _ m)
    · have e' : a = p := by simpa using m
      exact n.1 (List.mem_append_right _ (e' ▸ hp)), n.2⟩
  have hl : f.o.length ≤ S.length := by rw [← h.len]; simp [Ow.add]
  refine ⟨by simp [Ow.add, hl], ?_, fun j u a e1 e2 => ?_, fun a m z => ?_, h.tr, (fun z => (List.mem_append.mp z).elim (fun z => h.sy.1 (List.mem_append_left _ z)) fun z => h.sy.1 (by
    have e' : sysModules = p := by simpa using z
    rw [e']; exact List.mem_append_right _ hp)), h.sy.2⟩
  · refine List.nodup_append.mpr ⟨c.nd, by simp, fun a ha b hb => ?_⟩
    have e' : b = p := by simpa using hb
    subst e'
    exact fun z => (List.nodup_append.mp h.nd).2.2 a ha b hp z
  · have e2 : (f.o ++ [p])[j]? = some a := e2
    by_cases hj : j < f.o.length
    · rw [List.getElem?_append_left hj] at e2
      rw [List.getElem?_append_left (by rw [List.length_take]; omega), List.getElem?_take_of_lt hj] at e1
      exact (h.at_ j u a e1 (app_get e2)).keep rfl (Kq.refl _ _) gr
    · rw [List.getElem?_append_right (by omega)] at e2
      rw [List.getElem?_append_right (by rw [List.length_take]; omega)] at e1
      have hz : j - f.o.length = 0 := by
        have := (List.getElem?_eq_some_iff.mp e2).1
        simp at this
        omega
      rw [hz] at e2
      rw [List.length_take, show j - min f.o.length S.length = 0 by omega] at e1
      simp at e1 e2
      subst e1 e2
      exact (h.at_ i _ _ e ep).keep rfl (Kq.refl _ _) gr
  · rcases List.mem_append.mp z with z | z
    · exact h.dj a m (List.mem_append_left _ z)
    · have e' : a = p := by simpa using z
      exact h.dj a m (List.mem_append_right _ (e' ▸ hp))
end
end Z
set_option maxRecDepth 100000
namespace Z
open PySem PySem.Spec PyProof.Rows L2

/-! ## what a piece of a program yields -/
abbrev Ex := Sg → Sto → Option (Res SV)
abbrev Exs := Sg → Sto → Option (Res (List SV))
/-- a test -/
abbrev Tst := Sg → Sto → Option (Res Bool)
/-- an expression that makes a new list or dict -/
abbrev Nw := Sg → Sto → Option (Res Ob)

/-- a context in which all this is said -/
structure Gd (X : Cx) (W : WX) (k : Nat) : Prop where
  hr : Room k X.A
  gd : X.A.guards = some []
  calm : X.calm = true
  nd : X.N.Nodup
  tk : Takes X W
  po : PassesOwn (model X.prog X.w) X.A X.env X.xe
/-- less: what holds in the suite of an except clause too -/
structure Gq (X : Cx) : Prop where
  un : X.A.units + 200 < cLine
  gd : X.A.guards = some []
  nd : X.N.Nodup
theorem Gd.q {X : Cx} {W : WX} {k : Nat} (g : Gd X W k) : Gq X := ⟨by have := g.hr.un; omega, g.gd, g.nd⟩
theorem Gd.mono {X : Cx} {W : WX} {j k : Nat} (g : Gd X W k) (h : j ≤ k) : Gd X W j := ⟨g.hr.mono h, g.gd, g.calm, g.nd, g.tk, g.po⟩

/-! ### readings -/
def XS (X : Cx) (W : WX) (f : Ow) (σV : L2.St) (H : Hp) (x : Exn) (S' : Sto) : Prop :=
  ∀ (cls : Value) (d : Option Addr) (H' : Hp), StoR X.K f S' H' → Kp f H H' → ExR X.K f H' cls d x → W cls d σV H'
def TX (X : Cx) (W : WX) (e : Ex) : TE := fun σV H Q => ∃ (f : Ow) (σ : Sg) (S : Sto) (r : Res SV), EnvR X.K f H σV σ ∧ StoR X.K f S H ∧ e σ S = some r ∧
  match r with
  | .ok sv S' => ∀ (v : V) (H' : Hp), StoR X.K f S' H' → Kp f H H' → SvR X.K f H' v sv → Q v H'
  | .exc x S' => XS X W f σV H x S'
def TXs (X : Cx) (W : WX) (e : Exs) : TA := fun σV H Q => ∃ (f : Ow) (σ : Sg) (S : Sto) (r : Res (List SV)), EnvR X.K f H σV σ ∧ StoR X.K f S H ∧ e σ S = some r ∧
  match r with
  | .ok sv S' => ∀ (v : List V) (H' : Hp), StoR X.K f S' H' → Kp f H H' → Paired (SvR X.K f H') v sv → Q v H'
  | .exc x S' => XS X W f σV H x S'
def TT_ (X : Cx) (W : WX) (e : Tst) : TT := fun σV H Q => ∃ (f : Ow) (σ : Sg) (S : Sto) (r : Res Bool), EnvR X.K f H σV σ ∧ StoR X.K f S H ∧ e σ S = some r ∧
  match r with
  | .ok b S' => ∀ (H' : Hp), StoR X.K f S' H' → Kp f H H' → Q b H'
  | .exc x S' => XS X W f σV H x S'
/-- a new list, its address the store's from now on -/
def TN (X : Cx) (W : WX) (e : Nw) : TE := fun σV H Q => ∃ (f : Ow) (σ : Sg) (S : Sto) (r : Res Ob), EnvR X.K f H σV σ ∧ StoR X.K f S H ∧ e σ S = some r ∧
  match r with
  | .ok ob S' => ∀ (p : Addr) (H' : Hp), H p = none → StoR X.K (f.add [p]) (S' ++ [ob]) H' → Kp f H H' → Q (.ref p) H'
  | .exc x S' => XS X W f σV H x S'
/-- e means f -/
def DE (X : Cx) (W : WX) (e : Expr) (f : Ex) : Prop := PE X e (TX X W f)
def DA (X : Cx) (W : WX) (e : List Expr) (f : Exs) : Prop := PA X e (TXs X W f)
def DT (X : Cx) (W : WX) (e : Expr) (f : Tst) : Prop := PT X e (TT_ X W f)
def DN (X : Cx) (W : WX) (e : Expr) (f : Nw) : Prop := PE X e (TN X W f)

/-! ### statements -/
inductive Flow where
  | nx (σ : Sg) (S : Sto)
  | rt (v : SV) (S : Sto)
  | bk (σ : Sg) (S : Sto)
  | ct (σ : Sg) (S : Sto)
  | exc (x : Exn) (S : Sto)
abbrev Sm := Sg → Sto → Option Flow
/-- a state that is reached: the store may have grown -/
def ReS (X : Cx) (f : Ow) (H : Hp) (σ' : Sg) (S' : Sto) (P : L2.St → Hp → Prop) : Prop :=
  ∀ (ex : List Addr) (σV : L2.St) (H' : Hp), (∀ a ∈ ex, H a = none) → StoR X.K (f.add ex) S' H' → Kp f H H' → EnvR X.K (f.add ex) H' σV σ' → P σV H'
def ReV (X : Cx) (f : Ow) (H : Hp) (v : SV) (S' : Sto) (P : V → Hp → Prop) : Prop :=
  ∀ (ex : List Addr) (u : V) (H' : Hp), (∀ a ∈ ex, H a = none) → StoR X.K (f.add ex) S' H' → Kp f H H' → SvR X.K (f.add ex) H' u v → P u H'
def ReX (X : Cx) (W : WX) (f : Ow) (H : Hp) (x : Exn) (S' : Sto) : Prop :=
  ∀ (ex : List Addr) (cls : Value) (d : Option Addr) (σV : L2.St) (H' : Hp), (∀ a ∈ ex, H a = none) → StoR X.K (f.add ex) S' H' → Kp f H H' → ExR X.K (f.add ex) H' cls d x → W cls d σV H'
def Fl (X : Cx) (W : WX) (f : Ow) (H : Hp) (D : Ends) : Flow → Prop
  | .nx σ' S' => ReS X f H σ' S' D.nx
  | .rt v S' => ReV X f H v S' D.rt
  | .bk σ' S' => ReS X f H σ' S' D.bk
  | .ct σ' S' => ReS X f H σ' S' D.ct
  | .exc x S' => ReX X W f H x S'
def TS_ (X : Cx) (W : WX) (m : Sm) : TS := fun D σV H => ∃ (f : Ow) (σ : Sg) (S : Sto) (r : Flow), EnvR X.K f H σV σ ∧ StoR X.K f S H ∧ m σ S = some r ∧ Fl X W f H D r
def DS (X : Cx) (W : WX) (st : Stmt) (m : Sm) : Prop := PS X st (TS_ X W m)
def DB (X : Cx) (W : WX) (st : List Stmt) (m : Sm) : Prop := PSs X st (TS_ X W m)

/-! ### glue -/
theorem fresh_app {X : Cx} {f : Ow} {ex ex' : List Addr} {S' : Sto} {H H1 : Hp} (n1 : ∀ a ∈ ex, H a = none) (s1 : StoR X.K (f.add ex) S' H1) (k1 : Kp f H H1) (sH : ∀ a ∈ f.o, ∃ o, H1 a = some o) (n2 : ∀ a ∈ ex', H1 a = none) : ∀ a ∈ ex ++ ex', H a = none := fun a m => by
  rcases List.mem_append.mp m with m | m
  · exact n1 a m
  · have z := n2 a m
    cases e : H a with
    | none => rfl
    | some o =>
      by_cases hf : a ∈ f.o
      · obtain ⟨o', e'⟩ := sH a hf
        rw [z] at e'; cases e'
      · rw [k1 a o hf e] at z; cases z
theorem Kp.more {f : Ow} {ex : List Addr} {H H1 H2 : Hp} (n1 : ∀ a ∈ ex, H a = none) (k1 : Kp f H H1) (k2 : Kp (f.add ex) H1 H2) : Kp f H H2 := fun a o n e => by
  refine k2 a o (fun m => ?_) (k1 a o n e)
  rcases List.mem_append.mp m with m | m
  · exact n m
  · rw [n1 a m] at e; cases e
theorem StoR.all {K : PySem.W.Frag} {f : Ow} {ex : List Addr} {S : Sto} {H : Hp} (h : StoR K (f.add ex) S H) : ∀ a ∈ f.o, ∃ o, H a = some o := fun a m => h.some_ (List.mem_append_left _ m)
theorem ReS.step {X : Cx} {f : Ow} {ex : List Addr} {H H1 : Hp} {σ' : Sg} {S1 S' : Sto} {P : L2.St → Hp → Prop} (h : ReS X f H σ' S' P) (n1 : ∀ a ∈ ex, H a = none) (s1 : StoR X.K (f.add ex) S1 H1) (k1 : Kp f H H1) : ReS X (f.add ex) H1 σ' S' P :=
  fun ex' σV H' n2 s2 k2 e2 => h (ex ++ ex') σV H' (fresh_app n1 s1 k1 s1.all n2) (by rw [← Ow.add_add]; exact s2) (Kp.more n1 k1 k2) (by rw [← Ow.add_add]; exact e2)
theorem ReV.step {X : Cx} {f : Ow} {ex : List Addr} {H H1 : Hp} {σ' : SV} {S1 S' : Sto} {P : V → Hp → Prop} (h : ReV X f H σ' S' P) (n1 : ∀ a ∈ ex, H a = none) (s1 : StoR X.K (f.add ex) S1 H1) (k1 : Kp f H H1) : ReV X (f.add ex) H1 σ' S' P :=
  fun ex' σV H' n2 s2 k2 e2 => h (ex ++ ex') σV H' (fresh_app n1 s1 k1 s1.all n2) (by rw [← Ow.add_add]; exact s2) (Kp.more n1 k1 k2) (by rw [← Ow.add_add]; exact e2)
theorem ReX.step {X : Cx} {W : WX} {f : Ow} {ex : List Addr} {H H1 : Hp} {x : Exn} {S1 S' : Sto} (h : ReX X W f H x S') (n1 : ∀ a ∈ ex, H a = none) (s1 : StoR X.K (f.add ex) S1 H1) (k1 : Kp f H H1) : ReX X W (f.add ex) H1 x S' :=
  fun ex' cls d σV H' n2 s2 k2 e2 => h (ex ++ ex') cls d σV H' (fresh_app n1 s1 k1 s1.all n2) (by rw [← Ow.add_add]; exact s2) (Kp.more n1 k1 k2) (by rw [← Ow.add_add]; exact e2)
theorem Fl.step {X : Cx} {W : WX} {f : Ow} {ex : List Addr} {H H1 : Hp} {S1 : Sto} {D : Ends} {r : Flow} (h : Fl X W f H D r) (n1 : ∀ a ∈ ex, H a = none) (s1 : StoR X.K (f.add ex) S1 H1) (k1 : Kp f H H1) : Fl X W (f.add ex) H1 D r := by
  cases r with
  | nx => exact ReS.step h n1 s1 k1
  | rt => exact ReV.step h n1 s1 k1
  | bk => exact ReS.step h n1 s1 k1
  | ct => exact ReS.step h n1 s1 k1
  | exc => exact ReX.step h n1 s1 k1
/-- the same where the store has not grown -/
theorem Fl.kp {X : Cx} {W : WX} {f : Ow} {H H1 : Hp} {S1 : Sto} {D : Ends} {r : Flow} (h : Fl X W f H D r) (s1 : StoR X.K f S1 H1) (k1 : Kp f H H1) : Fl X W f H1 D r := by
  have q := Fl.step (ex := []) h (fun _ z => nomatch z) (by rw [Ow.add_nil]; exact s1) k1
  rw [Ow.add_nil] at q
  exact q
theorem XS.kp {X : Cx} {W : WX} {f : Ow} {σV : L2.St} {H H1 : Hp} {x : Exn} {S' : Sto} (h : XS X W f σV H x S') (k1 : Kp f H H1) : XS X W f σV H1 x S' :=
  fun cls d H' s k e => h cls d H' s (k1.trans k) e
/-- an exception of an expression, as a statement's -/
theorem XS.of {X : Cx} {W : WX} {f : Ow} {σV : L2.St} {H : Hp} {x : Exn} {S' : Sto} (h : ReX X W f H x S') : XS X W f σV H x S' :=
  fun cls d H' s k e => h [] cls d σV H' (fun _ z => nomatch z) (by rw [Ow.add_nil]; exact s) k (by rw [Ow.add_nil]; exact e)

/-! ### combining expressions -/
def Res.bnd {α β : Type} (r : Option (Res α)) (k : α → Sto → Option (Res β)) : Option (Res β) :=
  match r with
  | some (.ok a S) => k a S
  | some (.exc x S) => some (.exc x S)
  | none => none
theorem bnd_congr {α β : Type} {r r' : Option (Res α)} {k : α → Sto → Option (Res β)} (h : r = r') : Res.bnd r k = Res.bnd r' k := by rw [h]
@[simp] theorem bnd_ok {α β : Type} {a : α} {S : Sto} {k : α → Sto → Option (Res β)} : Res.bnd (some (.ok a S)) k = k a S := rfl
@[simp] theorem bnd_exc {α β : Type} {x : Exn} {S : Sto} {k : α → Sto → Option (Res β)} : Res.bnd (some (.exc x S) : Option (Res α)) k = some (.exc x S) := rfl
@[simp] theorem bnd_none {α β : Type} {k : α → Sto → Option (Res β)} : Res.bnd (none : Option (Res α)) k = none := rfl

section
variable {X : Cx} {W : WX} {k : Nat}
/-- what a part yields is what it is asked: the first part of a bind -/
theorem TX.first {β : Type} {e : Ex} {g : SV → Sto → Option (Res β)} {f : Ow} {σ : Sg} {S : Sto} {σV : L2.St} {H : Hp} {r : Res β} {Q : VK} (hE : EnvR X.K f H σV σ) (hS : StoR X.K f S H) (h : Res.bnd (e σ S) g = some r)
    (hx : ∀ x S', r = .exc x S' → XS X W f σV H x S')
    (hk : ∀ (sv : SV) (S1 : Sto) (v : V) (H1 : Hp), e σ S = some (.ok sv S1) → g sv S1 = some r → StoR X.K f S1 H1 → Kp f H H1 → EnvR X.K f H1 σV σ → SvR X.K f H1 v sv → Q v H1) : TX X W e σV H Q := by
  cases e1 : e σ S with
  | none => rw [e1] at h; cases h
  | some q =>
    rw [e1] at h
    refine ⟨f, σ, S, q, hE, hS, e1, ?_⟩
    cases q with
    | ok sv S1 => exact fun v H1 s1 k1 r1 => hk sv S1 v H1 e1 h s1 k1 (hE.kp k1) r1
    | exc x S1 => exact hx x S1 (Option.some.inj h).symm
theorem TXs.first {β : Type} {e : Exs} {g : List SV → Sto → Option (Res β)} {f : Ow} {σ : Sg} {S : Sto} {σV : L2.St} {H : Hp} {r : Res β} {Q : List V → Hp → Prop} (hE : EnvR X.K f H σV σ) (hS : StoR X.K f S H) (h : Res.bnd (e σ S) g = some r)
    (hx : ∀ x S', r = .exc x S' → XS X W f σV H x S')
    (hk : ∀ (sv : List SV) (S1 : Sto) (v : List V) (H1 : Hp), e σ S = some (.ok sv S1) → g sv S1 = some r → StoR X.K f S1 H1 → Kp f H H1 → EnvR X.K f H1 σV σ → Paired (SvR X.K f H1) v sv → Q v H1) : TXs X W e σV H Q := by
  cases e1 : e σ S with
  | none => rw [e1] at h; cases h
  | some q =>
    rw [e1] at h
    refine ⟨f, σ, S, q, hE, hS, e1, ?_⟩
    cases q with
    | ok sv S1 => exact fun v H1 s1 k1 r1 => hk sv S1 v H1 e1 h s1 k1 (hE.kp k1) r1
    | exc x S1 => exact hx x S1 (Option.some.inj h).symm
theorem TT_.first {β : Type} {e : Tst} {g : Bool → Sto → Option (Res β)} {f : Ow} {σ : Sg} {S : Sto} {σV : L2.St} {H : Hp} {r : Res β} {Q : Bool → Hp → Prop} (hE : EnvR X.K f H σV σ) (hS : StoR X.K f S H) (h : Res.bnd (e σ S) g = some r)
    (hx : ∀ x S', r = .exc x S' → XS X W f σV H x S')
    (hk : ∀ (b : Bool) (S1 : Sto) (H1 : Hp), e σ S = some (.ok b S1) → g b S1 = some r → StoR X.K f S1 H1 → Kp f H H1 → EnvR X.K f H1 σV σ → Q b H1) : TT_ X W e σV H Q := by
  cases e1 : e σ S with
  | none => rw [e1] at h; cases h
  | some q =>
    rw [e1] at h
    refine ⟨f, σ, S, q, hE, hS, e1, ?_⟩
    cases q with
    | ok sv S1 => exact fun H1 s1 k1 => hk sv S1 H1 e1 h s1 k1 (hE.kp k1)
    | exc x S1 => exact hx x S1 (Option.some.inj h).symm
/-- the end of a reading: the exception's way, shifted -/
theorem exc_way {f : Ow} {σV : L2.St} {H : Hp} {r : Res SV} {Q : VK} (h : match r with | .ok sv S' => ∀ (v : V) (H' : Hp), StoR X.K f S' H' → Kp f H H' → SvR X.K f H' v sv → Q v H' | .exc x S' => XS X W f σV H x S') :
    ∀ x S', r = .exc x S' → XS X W f σV H x S' := fun x S' e => by
  subst e; exact h
end
end Z
set_option maxRecDepth 100000
namespace Z
open PySem PySem.Spec PyProof.Rows L2

/-! ## rules for expressions -/
theorem pe_imp {X : Cx} {e : Expr} {t t' : TE} (h : PE X e t) (i : ∀ σ H Q, t' σ H Q → t σ H Q) : PE X e t' := ⟨fun pins s σ H Q I q => h.run pins s σ H Q I (i σ H Q q)⟩
theorem pa_imp {X : Cx} {e : List Expr} {t t' : TA} (h : PA X e t) (i : ∀ σ H Q, t' σ H Q → t σ H Q) : PA X e t' := ⟨fun pos pins s σ H Q I q => h.run pos pins s σ H Q I (i σ H Q q)⟩
theorem pt_imp {X : Cx} {e : Expr} {t t' : TT} (h : PT X e t) (i : ∀ σ H Q, t' σ H Q → t σ H Q) : PT X e t' := ⟨fun pins s σ H Q I q => h.run pins s σ H Q I (i σ H Q q)⟩
theorem pw_imp {X : Cx} {e : Expr} {t t' : TT} (h : PW X e t) (i : ∀ σ H Q, t' σ H Q → t σ H Q) : PW X e t' := ⟨fun wh pins s σ H Q I q => h.run wh pins s σ H Q I (i σ H Q q)⟩

@[simp] def eVar (i : Nat) (σ : Sg) (S : Sto) : Option (Res SV) := match σ[i]? with
  | some (some v) => some (.ok v S)
  | _ => none
@[simp] def eLit (d : PyData) (_ : Sg) (S : Sto) : Option (Res SV) := some (.ok (.d d) S)
@[simp] def eBin (p : SV → SV → Sto → Option SV) (a b : Ex) (σ : Sg) (S : Sto) : Option (Res SV) := Res.bnd (a σ S) fun x S1 => Res.bnd (b σ S1) fun y S2 => (p x y S2).map fun z => .ok z S2
@[simp] def eUn (p : SV → Sto → Option SV) (a : Ex) (σ : Sg) (S : Sto) : Option (Res SV) := Res.bnd (a σ S) fun x S1 => (p x S1).map fun z => .ok z S1
@[simp] def eAnd (a b : Ex) (σ : Sg) (S : Sto) : Option (Res SV) := Res.bnd (a σ S) fun x S1 => match x with
  | .d (.bool c) => if c = true then b σ S1 else some (.ok (.d (.bool false)) S1)
  | _ => none
@[simp] def eOr (a b : Ex) (σ : Sg) (S : Sto) : Option (Res SV) := Res.bnd (a σ S) fun x S1 => match x with
  | .d (.bool c) => if c = true then some (.ok (.d (.bool true)) S1) else b σ S1
  | _ => none
@[simp] def eIf (c : Tst) (a b : Ex) (σ : Sg) (S : Sto) : Option (Res SV) := Res.bnd (c σ S) fun x S1 => if x = true then a σ S1 else b σ S1
@[simp] def eChain (p p' : SV → SV → Sto → Option SV) (a b c : Ex) (σ : Sg) (S : Sto) : Option (Res SV) := Res.bnd (a σ S) fun x S1 => Res.bnd (b σ S1) fun y S2 => match p x y S2 with
  | some (.d (.bool true)) => Res.bnd (c σ S2) fun z S3 => (p' y z S3).map fun u => .ok u S3
  | some (.d (.bool false)) => some (.ok (.d (.bool false)) S2)
  | _ => none
@[simp] def tVal (a : Ex) (σ : Sg) (S : Sto) : Option (Res Bool) := Res.bnd (a σ S) fun x S1 => match x with
  | .d (.bool c) => some (.ok c S1)
  | _ => none
@[simp] def tNt (a : Tst) (σ : Sg) (S : Sto) : Option (Res Bool) := Res.bnd (a σ S) fun x S1 => some (.ok (!x) S1)
@[simp] def tAd (a b : Tst) (σ : Sg) (S : Sto) : Option (Res Bool) := Res.bnd (a σ S) fun x S1 => if x = true then b σ S1 else some (.ok false S1)
@[simp] def tOr_ (a b : Tst) (σ : Sg) (S : Sto) : Option (Res Bool) := Res.bnd (a σ S) fun x S1 => if x = true then some (.ok true S1) else b σ S1
@[simp] def esNil (_ : Sg) (S : Sto) : Option (Res (List SV)) := some (.ok [] S)
@[simp] def esCons (a : Ex) (r : Exs) (σ : Sg) (S : Sto) : Option (Res (List SV)) := Res.bnd (a σ S) fun x S1 => Res.bnd (r σ S1) fun xs S2 => some (.ok (x :: xs) S2)

/-- what an operator's reading asks is there -/
def OpK (X : Cx) (r : R2) (p : SV → SV → Sto → Option SV) : Prop := ∀ (f : Ow) (S : Sto) (H : Hp) (vx vy : V) (x y z : SV) (Q : VK), StoR X.K f S H → SvR X.K f H vx x → SvR X.K f H vy y → p x y S = some z →
  (∀ (v : V) (H' : Hp), StoR X.K f S H' → Kp f H H' → SvR X.K f H' v z → Q v H') → r vx vy H Q
def UnK (X : Cx) (r : V → Hp → VK → Prop) (p : SV → Sto → Option SV) : Prop := ∀ (f : Ow) (S : Sto) (H : Hp) (vx : V) (x z : SV) (Q : VK), StoR X.K f S H → SvR X.K f H vx x → p x S = some z →
  (∀ (v : V) (H' : Hp), StoR X.K f S H' → Kp f H H' → SvR X.K f H' v z → Q v H') → r vx H Q
/-- a call of something built in: it hands back a value -/
def CaK (X : Cx) (r : List V → Hp → VK → Prop) (p : List SV → Sto → Option SV) : Prop := ∀ (f : Ow) (S : Sto) (H : Hp) (vs : List V) (xs : List SV) (z : SV) (Q : VK), StoR X.K f S H → Paired (SvR X.K f H) vs xs → p xs S = some z →
  (∀ (v : V) (H' : Hp), StoR X.K f S H' → Kp f H H' → SvR X.K f H' v z → Q v H') → r vs H Q

section
variable {X : Cx} {W : WX} {a b c : Expr} {ea eb ec : Ex} {pos : Pos}
theorem de_var (i : Nat) {x : Str} (hN : X.N[i]? = some x := by rfl) (hv : Vis X.env.scope x := by first | exact Or.inl rfl | exact Or.inr (Or.inl rfl) | exact Or.inr (Or.inr rfl)) (hd : (x == ("__debug__" : Str)) = false := by decide)
    (hcd : (x == ("__classdict__" : Str)) = false := by decide) : DE X W (.Name x pos) (eVar i) := by
  refine pe_imp (pv i hN hv hd hcd) fun σV H Q ⟨f, σ, S, r, hE, hS, he, hq⟩ => ?_
  unfold eVar at he
  split at he
  · rename_i v e
    cases he
    obtain ⟨u, e1, r1⟩ := hE.get i v e
    exact ⟨u, e1, hq u H hS (Kp.refl _ _) r1⟩
  · cases he
theorem de_int {i j} : DE X W (.Constant (.int i) j pos) (eLit (.int i)) := pe_imp pe_int fun σV H Q ⟨f, σ, S, r, hE, hS, he, hq⟩ => by
  cases he
  exact hq _ H hS (Kp.refl _ _) (Is.int i)
theorem de_bl {b j} : DE X W (.Constant (.bool b) j pos) (eLit (.bool b)) := pe_imp pe_bl fun σV H Q ⟨f, σ, S, r, hE, hS, he, hq⟩ => by
  cases he
  exact hq _ H hS (Kp.refl _ _) (Is.bl b)
theorem de_non {j} : DE X W (.Constant .none j pos) (eLit .none) := pe_imp pe_non fun σV H Q ⟨f, σ, S, r, hE, hS, he, hq⟩ => by
  cases he
  exact hq _ H hS (Kp.refl _ _) Is.non
theorem de_str {x j} : DE X W (.Constant (.str x) j pos) (eLit (.str x)) := pe_imp pe_str fun σV H Q ⟨f, σ, S, r, hE, hS, he, hq⟩ => by
  cases he
  exact hq _ H hS (Kp.refl _ _) (Is.str x)
/-- a constant of the module -/
theorem de_glob {x : Str} {v : V} {u : Value} {d : PyData} (hg : Gl X x) (hm : X.mg x = some u) (r : RelV v u) (i : ∀ f H, Is X.K f H v d) (hd : (x == ("__debug__" : Str)) = false := by decide) : DE X W (.Name x pos) (eLit d) :=
  pe_imp (pe_glob hg hm r hd) fun σV H Q ⟨f, σ, S, r, hE, hS, he, hq⟩ => by
    cases he
    exact hq _ H hS (Kp.refl _ _) (i f H)

/-- two parts in a row, then what is made of them -/
theorem two {p : SV → SV → Sto → Option SV} {r : R2} (hk : OpK X r p) {σV : L2.St} {H : Hp} {Q : VK} (h : TX X W (eBin p ea eb) σV H Q) : tOp r (TX X W ea) (TX X W eb) σV H Q := by
  obtain ⟨f, σ, S, r, hE, hS, he, hq⟩ := h
  have hx := exc_way hq
  refine TX.first hE hS he hx fun x S1 vx H1 _ h1 s1 k1 e1 r1 => ?_
  refine TX.first e1 s1 h1 (fun y S' e => (hx y S' e).kp k1) fun y S2 vy H2 _ h2 s2 k2 e2 r2 => ?_
  cases hp : p x y S2 with
  | none => rw [hp] at h2; cases h2
  | some z =>
    rw [hp] at h2
    cases h2
    exact hk f S2 H2 vx vy x y z Q s2 (r1.kp k2) r2 hp fun v H' s' k' r' => hq v H' s' ((k1.trans k2).trans k') r'
theorem de_bin {op : Operator} {r : R2} {p : SV → SV → Sto → Option SV} (ho : OpR X (binaryOp op) r) (hk : OpK X r p) (ha : DE X W a ea) (hb : DE X W b eb) : DE X W (.BinOp a op b pos) (eBin p ea eb) :=
  pe_imp (pe_op ho ha hb) fun _ _ _ h => two hk h
theorem de_cmp {op : CmpOp} {r : R2} {p : SV → SV → Sto → Option SV} (ho : OpR X (compareOp op) r) (hk : OpK X r p) (ha : DE X W a ea) (hb : DE X W b eb) (hm : behindInMarks op b = false) : DE X W (.Compare a [op] [b] pos) (eBin p ea eb) :=
  pe_imp (pe_cmpR ho ha hb hm) fun _ _ _ h => two hk h
theorem dt_cmp {op : CmpOp} {r : R2} {p : SV → SV → Sto → Option SV} (ho : OpR X (compareOp op) r) (hk : OpK X r p) (ha : DE X W a ea) (hb : DE X W b eb) (hm : behindInMarks op b = false) : DT X W (.Compare a [op] [b] pos) (tVal (eBin p ea eb)) :=
  pt_imp (pt_cmpR ho ha hb hm) fun σV H Q ⟨f, σ, S, r, hE, hS, he, hq⟩ => by
    unfold tVal at he
    show tOp _ _ _ σV H _
    refine two hk ?_
    refine TX.first hE hS he (fun x S' e => by subst e; exact hq) fun x S1 vx H1 _ h1 s1 k1 e1 r1 => ?_
    split at h1
    · cases h1
      cases r1
      exact ⟨_, rfl, hq _ s1 k1⟩
    · cases h1
theorem de_un {op : UnaryOp} {r : V → Hp → VK → Prop} {p : SV → Sto → Option SV} (ho : UnR X (unaryOp op) r) (hk : UnK X r p) (ha : DE X W a ea) : DE X W (.UnaryOp op a pos) (eUn p ea) :=
  pe_imp (pe_un ho ha) fun σV H Q ⟨f, σ, S, r, hE, hS, he, hq⟩ => by
    have hx := exc_way hq
    refine TX.first hE hS he hx fun x S1 vx H1 _ h1 s1 k1 e1 r1 => ?_
    cases hp : p x S1 with
    | none => rw [hp] at h1; cases h1
    | some z =>
      rw [hp] at h1
      cases h1
      exact hk f S1 H1 vx x z Q s1 r1 hp fun v H' s' k' r' => hq v H' s' (k1.trans k') r'
theorem de_one {op} (h : DE X W a ea) : DE X W (.BoolOp op [a] pos) ea := pe_one h
theorem de_and {rest : List Expr} (ha : DE X W a ea) (hb : DE X W (.BoolOp .And (b :: rest) pos) eb) : DE X W (.BoolOp .And (a :: b :: rest) pos) (eAnd ea eb) :=
  pe_imp (pe_and ha hb) fun σV H Q ⟨f, σ, S, r, hE, hS, he, hq⟩ => by
    refine TX.first hE hS he (exc_way hq) fun x S1 vx H1 _ h1 s1 k1 e1 r1 => ?_
    split at h1
    · rename_i c _
      cases r1
      refine ⟨c, rfl, ?_⟩
      cases c with
      | true =>
        rw [if_pos rfl] at h1 ⊢
        refine ⟨f, σ, S1, r, e1, s1, h1, ?_⟩
        cases r with
        | ok sv S' => exact fun v H' s' k' r' => hq v H' s' (k1.trans k') r'
        | exc y S' => exact XS.kp hq k1
      | false =>
        rw [if_neg Bool.false_ne_true] at h1 ⊢
        cases h1
        exact hq _ H1 s1 k1 (Is.bl false)
    · cases h1
theorem de_or {rest : List Expr} (ha : DE X W a ea) (hb : DE X W (.BoolOp .Or (b :: rest) pos) eb) : DE X W (.BoolOp .Or (a :: b :: rest) pos) (eOr ea eb) :=
  pe_imp (pe_or ha hb) fun σV H Q ⟨f, σ, S, r, hE, hS, he, hq⟩ => by
    refine TX.first hE hS he (exc_way hq) fun x S1 vx H1 _ h1 s1 k1 e1 r1 => ?_
    split at h1
    · rename_i c _
      cases r1
      refine ⟨c, rfl, ?_⟩
      cases c with
      | false =>
        rw [if_neg Bool.false_ne_true] at h1 ⊢
        refine ⟨f, σ, S1, r, e1, s1, h1, ?_⟩
        cases r with
        | ok sv S' => exact fun v H' s' k' r' => hq v H' s' (k1.trans k') r'
        | exc y S' => exact XS.kp hq k1
      | true =>
        rw [if_pos rfl] at h1 ⊢
        cases h1
        exact hq _ H1 s1 k1 (Is.bl true)
    · cases h1
@[simp] def eNot (a : Ex) (σ : Sg) (S : Sto) : Option (Res SV) := Res.bnd (a σ S) fun x S1 => match x with
  | .d (.bool c) => some (.ok (.d (.bool (!c))) S1)
  | _ => none
theorem de_not (ha : DE X W a ea) : DE X W (.UnaryOp .Not a pos) (eNot ea) :=
  pe_imp (pe_not ha) fun σV H Q ⟨f, σ, S, r, hE, hS, he, hq⟩ => by
    refine TX.first hE hS he (exc_way hq) fun x S1 vx H1 _ h1 s1 k1 e1 r1 => ?_
    split at h1
    · cases h1
      cases r1
      exact ⟨_, rfl, hq _ H1 s1 k1 (Is.bl _)⟩
    · cases h1
/-! tests -/
theorem dt_val (ha : DE X W a ea) (he : ∀ whole, isTrue a X.env whole = (do let v ← whole; standAt a.pos; holding [v] (truthy v)) := by intro _; rfl) : DT X W a (tVal ea) :=
  pt_imp (pt_val ha he) fun σV H Q ⟨f, σ, S, r, hE, hS, he, hq⟩ => by
    refine TX.first hE hS he (fun x S' e => by subst e; exact hq) fun x S1 vx H1 _ h1 s1 k1 e1 r1 => ?_
    split at h1
    · cases h1
      cases r1
      exact ⟨_, rfl, hq H1 s1 k1⟩
    · cases h1
variable {ta tb : Tst}
theorem TT_.go {σV : L2.St} {H H1 : Hp} {f : Ow} {σ : Sg} {S1 : Sto} {Q : Bool → Hp → Prop} {r : Res Bool} (e1 : EnvR X.K f H1 σV σ) (s1 : StoR X.K f S1 H1) (k1 : Kp f H H1) (h1 : tb σ S1 = some r)
    (hq : match (generalizing := false) r with | .ok b S' => ∀ (H' : Hp), StoR X.K f S' H' → Kp f H H' → Q b H' | .exc x S' => XS X W f σV H x S') : TT_ X W tb σV H1 Q := by
  refine ⟨f, σ, S1, r, e1, s1, h1, ?_⟩
  cases r with
  | ok b S' => exact fun H' s' k' => hq H' s' (k1.trans k')
  | exc y S' => exact XS.kp hq k1
theorem TX.go {σV : L2.St} {H H1 : Hp} {f : Ow} {σ : Sg} {S1 : Sto} {Q : VK} {r : Res SV} {e : Ex} (e1 : EnvR X.K f H1 σV σ) (s1 : StoR X.K f S1 H1) (k1 : Kp f H H1) (h1 : e σ S1 = some r)
    (hq : match (generalizing := false) r with | .ok sv S' => ∀ (v : V) (H' : Hp), StoR X.K f S' H' → Kp f H H' → SvR X.K f H' v sv → Q v H' | .exc x S' => XS X W f σV H x S') : TX X W e σV H1 Q := by
  refine ⟨f, σ, S1, r, e1, s1, h1, ?_⟩
  cases r with
  | ok b S' => exact fun v H' s' k' r' => hq v H' s' (k1.trans k') r'
  | exc y S' => exact XS.kp hq k1
theorem dt_not (ha : DT X W a ta) : DT X W (.UnaryOp .Not a pos) (tNt ta) :=
  pt_imp (pt_not ha) fun σV H Q ⟨f, σ, S, r, hE, hS, he, hq⟩ => by
    refine TT_.first hE hS he (fun x S' e => by subst e; exact hq) fun b S1 H1 _ h1 s1 k1 e1 => ?_
    cases h1
    exact hq H1 s1 k1
/-- a chain of and, or, whatever its whole is -/
def DW (X : Cx) (W : WX) (e : Expr) (f : Tst) : Prop := PW X e (TT_ X W f)
theorem dw_and1 (ha : DT X W a ta) : DW X W (.BoolOp .And [a] pos) ta := pw_and1 ha
theorem dw_or1 (ha : DT X W a ta) : DW X W (.BoolOp .Or [a] pos) ta := pw_or1 ha
theorem dw_and {rest : List Expr} (ha : DT X W a ta) (hb : DW X W (.BoolOp .And (b :: rest) pos) tb) : DW X W (.BoolOp .And (a :: b :: rest) pos) (tAd ta tb) :=
  pw_imp (pw_and ha hb) fun σV H Q ⟨f, σ, S, r, hE, hS, he, hq⟩ => by
    refine TT_.first hE hS he (fun x S' e => by subst e; exact hq) fun b S1 H1 _ h1 s1 k1 e1 => ?_
    cases b with
    | true =>
      rw [if_pos rfl] at h1 ⊢
      exact TT_.go e1 s1 k1 h1 hq
    | false =>
      rw [if_neg Bool.false_ne_true] at h1 ⊢
      cases h1
      exact hq H1 s1 k1
theorem dw_or {rest : List Expr} (ha : DT X W a ta) (hb : DW X W (.BoolOp .Or (b :: rest) pos) tb) : DW X W (.BoolOp .Or (a :: b :: rest) pos) (tOr_ ta tb) :=
  pw_imp (pw_or ha hb) fun σV H Q ⟨f, σ, S, r, hE, hS, he, hq⟩ => by
    refine TT_.first hE hS he (fun x S' e => by subst e; exact hq) fun b S1 H1 _ h1 s1 k1 e1 => ?_
    cases b with
    | false =>
      rw [if_neg Bool.false_ne_true] at h1 ⊢
      exact TT_.go e1 s1 k1 h1 hq
    | true =>
      rw [if_pos rfl] at h1 ⊢
      cases h1
      exact hq H1 s1 k1
theorem dt_w (h : DW X W a ta) : DT X W a ta := PW.pt h
theorem de_if (hc : DT X W c ta) (ha : DE X W a ea) (hb : DE X W b eb) : DE X W (.IfExp c a b pos) (eIf ta ea eb) :=
  pe_imp (pe_ifExp hc ha hb) fun σV H Q ⟨f, σ, S, r, hE, hS, he, hq⟩ => by
    refine TT_.first hE hS he (exc_way hq) fun b S1 H1 _ h1 s1 k1 e1 => ?_
    cases b with
    | true =>
      rw [if_pos rfl] at h1 ⊢
      exact TX.go e1 s1 k1 h1 hq
    | false =>
      rw [if_neg Bool.false_ne_true] at h1 ⊢
      exact TX.go e1 s1 k1 h1 hq
/-! lists of arguments, displays, calls of what is built in -/
variable {es : List Expr} {fs : Exs}
theorem da_nil : DA X W [] esNil := pa_imp pa_nil fun σV H Q ⟨f, σ, S, r, hE, hS, he, hq⟩ => by
  cases he
  exact hq [] H hS (Kp.refl _ _) .nil
theorem da_cons (ha : DE X W a ea) (hr : DA X W es fs) (hs : starEach (a :: es) X.env = (false, eval a X.env) :: starEach es X.env := by rfl) : DA X W (a :: es) (esCons ea fs) :=
  pa_imp (pa_cons ha hr hs) fun σV H Q ⟨f, σ, S, r, hE, hS, he, hq⟩ => by
    have hx : ∀ x S', r = .exc x S' → XS X W f σV H x S' := fun x S' e => by subst e; exact hq
    refine TX.first hE hS he hx fun x S1 vx H1 _ h1 s1 k1 e1 r1 => ?_
    refine TXs.first e1 s1 h1 (fun y S' e => (hx y S' e).kp k1) fun ys S2 vs H2 _ h2 s2 k2 e2 r2 => ?_
    cases h2
    exact hq _ H2 s2 (k1.trans k2) (.cons (r1.kp k2) r2)
@[simp] def eCa (p : List SV → Sto → Option SV) (as : Exs) (σ : Sg) (S : Sto) : Option (Res SV) := Res.bnd (as σ S) fun xs S1 => (p xs S1).map fun z => .ok z S1
theorem ca_go {r : List V → Hp → VK → Prop} {p : List SV → Sto → Option SV} (hk : CaK X r p) {σV : L2.St} {H : Hp} {Q : VK} (h : TX X W (eCa p fs) σV H Q) : tCB r (TXs X W fs) σV H Q := by
  obtain ⟨f, σ, S, r, hE, hS, he, hq⟩ := h
  refine TXs.first hE hS he (exc_way hq) fun xs S1 vs H1 _ h1 s1 k1 e1 r1 => ?_
  cases hp : p xs S1 with
  | none => rw [hp] at h1; cases h1
  | some z =>
    rw [hp] at h1
    cases h1
    exact hk f S1 H1 vs xs z Q s1 r1 hp fun v H' s' k' r' => hq v H' s' (k1.trans k') r'
theorem de_callB {x : Str} {id : String} {p0 : Pos} {r : List V → Hp → VK → Prop} {p : List SV → Sto → Option SV} (hc : CallR X (.builtin id) r) (hk : CaK X r p) (hg : Gl X x) (hm : X.mg x = none) (hv : bootBuiltins x = some (.builtin id)) (ha : DA X W (a :: es) fs) (hn : x ≠ "__name__" := by decide) (hdb : (x == ("__debug__" : Str)) = false := by decide)
    (he : starEach (a :: es) X.env = (false, eval a X.env) :: starEach es X.env := by rfl) (hpl : (backTo pos (starEach es X.env)).any (·.1) = false := by rfl) : DE X W (.Call (.Name x p0) (a :: es) [] pos) (eCa p fs) :=
  pe_imp (pe_callB hc hg hm hv ha hn hdb he hpl) fun _ _ _ h => ca_go hk h
theorem de_callTy {x : Str} {id : String} {p0 : Pos} {r : List V → Hp → VK → Prop} {p : List SV → Sto → Option SV} (hc : CallR X (.type id) r) (hk : CaK X r p) (hg : Gl X x) (hm : X.mg x = none) (hv : bootBuiltins x = some (.type id)) (ha : DA X W (a :: es) fs) (hn : x ≠ "__name__" := by decide) (hdb : (x == ("__debug__" : Str)) = false := by decide)
    (he : starEach (a :: es) X.env = (false, eval a X.env) :: starEach es X.env := by rfl) (hpl : (backTo pos (starEach es X.env)).any (·.1) = false := by rfl) : DE X W (.Call (.Name x p0) (a :: es) [] pos) (eCa p fs) :=
  pe_imp (pe_callTy hc hg hm hv ha hn hdb he hpl) fun _ _ _ h => ca_go hk h
/-- the data of values that are data -/
@[simp] def dats : List SV → Option (List PyData)
  | [] => some []
  | .d x :: r => (dats r).map (x :: ·)
  | .r _ :: _ => none
  | .s _ :: _ => none
  | .k _ _ _ _ :: _ => none
  | .t _ _ _ _ _ :: _ => none
theorem dats_is {K : PySem.W.Frag} {f : Ow} {H : Hp} : ∀ {xs : List SV} {vs : List V} {ds : List PyData}, dats xs = some ds → Paired (SvR K f H) vs xs → IsAll K f H vs ds
  | [], _, _, h, .nil => by cases h; exact .nil
  | .d x :: r, _, ds, h, .cons a t => by
    unfold dats at h
    cases e : dats r with
    | none => rw [e] at h; cases h
    | some es => rw [e] at h; cases h; exact .cons a (dats_is e t)
  | .r _ :: _, _, _, h, _ => by cases h
  | .s _ :: _, _, _, h, _ => by cases h
  | .k _ _ _ _ :: _, _, _, h, _ => by cases h
  | .t _ _ _ _ _ :: _, _, _, h, _ => by cases h
@[simp] def dispT (xs : List SV) (_ : Sto) : Option SV := (dats xs).bind fun ds => if ds.length ≤ sizeLine then some (.d (.tuple ds)) else none
@[simp] def dispL (xs : List SV) (_ : Sto) : Option SV := (dats xs).bind fun ds => if ds.length ≤ sizeLine then some (.d (.list ds)) else none
theorem de_tup {k1 : Nat} (h : DA X W es fs) : DE X W (.Tuple es k1 pos) (eCa dispT fs) :=
  pe_imp (pe_tup h) fun σV H Q ⟨f, σ, S, r, hE, hS, he, hq⟩ => by
    refine TXs.first hE hS he (exc_way hq) fun xs S1 vs H1 _ h1 s1 k1 e1 r1 => ?_
    unfold dispT at h1
    cases e : dats xs with
    | none => rw [e] at h1; cases h1
    | some ds =>
      rw [e] at h1
      dsimp only [Option.bind_some] at h1
      split at h1
      · rename_i hz
        cases h1
        have q := dats_is e r1
        refine ⟨by rw [q.len]; exact hz, fun p np => ?_⟩
        refine hq _ _ (s1.laid np) (k1.trans (Kp.new np)) (Is.tup (.inl ⟨.inl upd_same, s1.free np⟩) (q.keep (Kp.new np).q (Gr.refl _ _)))
      · cases h1
theorem de_lst (h : DA X W es fs) : DE X W (.List es pos) (eCa dispL fs) :=
  pe_imp (pe_lst h) fun σV H Q ⟨f, σ, S, r, hE, hS, he, hq⟩ => by
    refine TXs.first hE hS he (exc_way hq) fun xs S1 vs H1 _ h1 s1 k1 e1 r1 => ?_
    unfold dispL at h1
    cases e : dats xs with
    | none => rw [e] at h1; cases h1
    | some ds =>
      rw [e] at h1
      dsimp only [Option.bind_some] at h1
      split at h1
      · rename_i hz
        cases h1
        have q := dats_is e r1
        refine ⟨by rw [q.len]; exact hz, fun p np => ?_⟩
        refine hq _ _ (s1.laid np) (k1.trans (Kp.new np)) (Is.lst ⟨upd_same, s1.free np⟩ (q.keep (Kp.new np).q (Gr.refl _ _)))
      · cases h1
/-- the same list, owned -/
@[simp] def nLst (as : Exs) (σ : Sg) (S : Sto) : Option (Res Ob) := Res.bnd (as σ S) fun xs S1 => (dats xs).bind fun ds => if ds.length ≤ sizeLine then some (.ok (.lst ds) S1) else none
theorem TN.first {β : Type} {e : Nw} : True := trivial
theorem dn_lst (h : DA X W es fs) : DN X W (.List es pos) (nLst fs) :=
  pe_imp (pe_lst h) fun σV H Q ⟨f, σ, S, r, hE, hS, he, hq⟩ => by
    refine TXs.first hE hS he (fun x S' e => by subst e; exact hq) fun xs S1 vs H1 _ h1 s1 k1 e1 r1 => ?_
    cases e : dats xs with
    | none => rw [e] at h1; cases h1
    | some ds =>
      rw [e] at h1
      dsimp only [Option.bind_some] at h1
      split at h1
      · rename_i hz
        cases h1
        have q := dats_is e r1
        refine ⟨by rw [q.len]; exact hz, fun p np => ?_⟩
        have nH : H p = none := by
          cases eH : H p with
          | none => rfl
          | some o =>
            have z := k1 p o (s1.free np).1 eH
            rw [np] at z; cases z
        refine hq p _ nH (s1.own np ⟨vs, upd_same, q.keep (Kp.new np).q (Gr.app fun b hb => ?_)⟩) (k1.trans (Kp.new np))
        have e' : b = p := by simpa using hb
        rw [e']; exact np
      · cases h1
end
end Z
set_option maxRecDepth 100000
namespace Z
open PySem PySem.Spec PyProof.Rows L2

/-! ## statements -/
theorem ps_imp {X : Cx} {e : Stmt} {t t' : TS} (h : PS X e t) (i : ∀ D σ H, t' D σ H → t D σ H) : PS X e t' := ⟨fun pins s σ H D I q => h.run pins s σ H D I (i D σ H q)⟩
theorem pss_imp {X : Cx} {e : List Stmt} {t t' : TS} (h : PSs X e t) (i : ∀ D σ H, t' D σ H → t D σ H) : PSs X e t' := ⟨fun pins s σ H D I q => h.run pins s σ H D I (i D σ H q)⟩

/-- a part, then a statement's end -/
def Sm.bnd {α : Type} (r : Option (Res α)) (k : α → Sto → Option Flow) : Option Flow :=
  match r with
  | some (.ok a S) => k a S
  | some (.exc x S) => some (.exc x S)
  | none => none
theorem sbnd_congr {α : Type} {r r' : Option (Res α)} {k : α → Sto → Option Flow} (h : r = r') : Sm.bnd r k = Sm.bnd r' k := by rw [h]
@[simp] theorem sbnd_ok {α : Type} {a : α} {S : Sto} {k : α → Sto → Option Flow} : Sm.bnd (some (.ok a S)) k = k a S := rfl
@[simp] theorem sbnd_exc {α : Type} {x : Exn} {S : Sto} {k : α → Sto → Option Flow} : Sm.bnd (some (.exc x S) : Option (Res α)) k = some (.exc x S) := rfl
@[simp] theorem sbnd_none {α : Type} {k : α → Sto → Option Flow} : Sm.bnd (none : Option (Res α)) k = none := rfl

section
variable {X : Cx} {W : WX} {k : Nat}
theorem TX.stm {e : Ex} {g : SV → Sto → Option Flow} {f : Ow} {σ : Sg} {S : Sto} {σV : L2.St} {H : Hp} {r : Flow} {D : Ends} {Q : VK} (hE : EnvR X.K f H σV σ) (hS : StoR X.K f S H) (h : Sm.bnd (e σ S) g = some r) (hf : Fl X W f H D r)
    (hk : ∀ (sv : SV) (S1 : Sto) (v : V) (H1 : Hp), g sv S1 = some r → Fl X W f H1 D r → StoR X.K f S1 H1 → Kp f H H1 → EnvR X.K f H1 σV σ → SvR X.K f H1 v sv → Q v H1) : TX X W e σV H Q := by
  cases e1 : e σ S with
  | none => rw [e1] at h; cases h
  | some q =>
    rw [e1] at h
    refine ⟨f, σ, S, q, hE, hS, e1, ?_⟩
    cases q with
    | ok sv S1 => exact fun v H1 s1 k1 r1 => hk sv S1 v H1 h (hf.kp s1 k1) s1 k1 (hE.kp k1) r1
    | exc x S1 =>
      cases h
      exact XS.of hf
theorem TXs.stm {e : Exs} {g : List SV → Sto → Option Flow} {f : Ow} {σ : Sg} {S : Sto} {σV : L2.St} {H : Hp} {r : Flow} {D : Ends} {Q : List V → Hp → Prop} (hE : EnvR X.K f H σV σ) (hS : StoR X.K f S H) (h : Sm.bnd (e σ S) g = some r) (hf : Fl X W f H D r)
    (hk : ∀ (sv : List SV) (S1 : Sto) (v : List V) (H1 : Hp), g sv S1 = some r → Fl X W f H1 D r → StoR X.K f S1 H1 → Kp f H H1 → EnvR X.K f H1 σV σ → Paired (SvR X.K f H1) v sv → Q v H1) : TXs X W e σV H Q := by
  cases e1 : e σ S with
  | none => rw [e1] at h; cases h
  | some q =>
    rw [e1] at h
    refine ⟨f, σ, S, q, hE, hS, e1, ?_⟩
    cases q with
    | ok sv S1 => exact fun v H1 s1 k1 r1 => hk sv S1 v H1 h (hf.kp s1 k1) s1 k1 (hE.kp k1) r1
    | exc x S1 =>
      cases h
      exact XS.of hf
theorem TT_.stm {e : Tst} {g : Bool → Sto → Option Flow} {f : Ow} {σ : Sg} {S : Sto} {σV : L2.St} {H : Hp} {r : Flow} {D : Ends} {Q : Bool → Hp → Prop} (hE : EnvR X.K f H σV σ) (hS : StoR X.K f S H) (h : Sm.bnd (e σ S) g = some r) (hf : Fl X W f H D r)
    (hk : ∀ (sv : Bool) (S1 : Sto) (H1 : Hp), g sv S1 = some r → Fl X W f H1 D r → StoR X.K f S1 H1 → Kp f H H1 → EnvR X.K f H1 σV σ → Q sv H1) : TT_ X W e σV H Q := by
  cases e1 : e σ S with
  | none => rw [e1] at h; cases h
  | some q =>
    rw [e1] at h
    refine ⟨f, σ, S, q, hE, hS, e1, ?_⟩
    cases q with
    | ok sv S1 => exact fun H1 s1 k1 => hk sv S1 H1 h (hf.kp s1 k1) s1 k1 (hE.kp k1)
    | exc x S1 =>
      cases h
      exact XS.of hf
theorem TN.stm {e : Nw} {g : Ob → Sto → Option Flow} {f : Ow} {σ : Sg} {S : Sto} {σV : L2.St} {H : Hp} {r : Flow} {D : Ends} {Q : VK} (hE : EnvR X.K f H σV σ) (hS : StoR X.K f S H) (h : Sm.bnd (e σ S) g = some r) (hf : Fl X W f H D r)
    (hk : ∀ (ob : Ob) (S1 : Sto) (p : Addr) (H1 : Hp), g ob S1 = some r → Fl X W (f.add [p]) H1 D r → StoR X.K (f.add [p]) (S1 ++ [ob]) H1 → Kp f H H1 → EnvR X.K (f.add [p]) H1 σV σ → H p = none → Q (.ref p) H1) : TN X W e σV H Q := by
  cases e1 : e σ S with
  | none => rw [e1] at h; cases h
  | some q =>
    rw [e1] at h
    refine ⟨f, σ, S, q, hE, hS, e1, ?_⟩
    cases q with
    | ok ob S1 =>
      intro p H1 np s1 k1
      have n1 : ∀ a ∈ [p], H a = none := fun a m => by
        have e : a = p := by simpa using m
        rw [e]; exact np
      exact hk ob S1 p H1 h (hf.step n1 s1 k1) s1 k1 (hE.keep k1.q (Gr.app n1) (Pf.add _ _)) np
    | exc x S1 =>
      cases h
      exact XS.of hf
theorem ReS.now {f : Ow} {H : Hp} {σV : L2.St} {σ : Sg} {S : Sto} {P : L2.St → Hp → Prop} (h : ReS X f H σ S P) (s : StoR X.K f S H) (e : EnvR X.K f H σV σ) : P σV H :=
  h [] σV H (fun _ z => nomatch z) (by rw [Ow.add_nil]; exact s) (Kp.refl _ _) (by rw [Ow.add_nil]; exact e)
theorem ReV.now {f : Ow} {H : Hp} {u : V} {v : SV} {S : Sto} {P : V → Hp → Prop} (h : ReV X f H v S P) (s : StoR X.K f S H) (e : SvR X.K f H u v) : P u H :=
  h [] u H (fun _ z => nomatch z) (by rw [Ow.add_nil]; exact s) (Kp.refl _ _) (by rw [Ow.add_nil]; exact e)
theorem EnvR.set {f : Ow} {H : Hp} {σV : L2.St} {σ : Sg} {v : V} {x : SV} (h : EnvR X.K f H σV σ) (i : Nat) (r : SvR X.K f H v x) : EnvR X.K f H (σV.set i (some v)) (σ.set i (some x)) := by
  refine ⟨by simp [h.len], fun j y e => ?_⟩
  by_cases hj : i = j
  · subst hj
    have hi : i < σ.length := by
      have := (List.getElem?_eq_some_iff.mp e).1
      simpa using this
    rw [List.getElem?_set_self hi] at e
    cases e
    exact ⟨v, by rw [List.getElem?_set_self (by rw [h.len]; exact hi)], r⟩
  · rw [List.getElem?_set_ne hj] at e
    obtain ⟨u, e1, r1⟩ := h.get j y e
    exact ⟨u, by rw [List.getElem?_set_ne hj]; exact e1, r1⟩
end

/-! ### targets: what is given is data -/
abbrev Tg := PyData → Sg → Option Sg
@[simp] def gVar (i : Nat) (d : PyData) (σ : Sg) : Option Sg := some (σ.set i (some (.d d)))
@[simp] def gPair (a b : Tg) (d : PyData) (σ : Sg) : Option Sg := match d with
  | .tuple [x, y] => (a x σ).bind (b y)
  | _ => none
@[simp] def gTrip (a b c : Tg) (d : PyData) (σ : Sg) : Option Sg := match d with
  | .tuple [x, y, z] => ((a x σ).bind (b y)).bind (c z)
  | _ => none
/-- two frames that agree outside some slots -/
def Agr (is : List Nat) (a b : L2.St) : Prop := b.length = a.length ∧ ∀ j, j ∉ is → b[j]? = a[j]?
theorem Agr.trans {is js : List Nat} {a b c : L2.St} (h : Agr is a b) (k : Agr js b c) : Agr (is ++ js) a c :=
  ⟨k.1.trans h.1, fun j n => (k.2 j fun m => n (List.mem_append_right _ m)).trans (h.2 j fun m => n (List.mem_append_left _ m))⟩
def TG_ (X : Cx) (g : Tg) (is : List Nat) : TG := fun v σV H Q => ∃ (f : Ow) (σ σ' : Sg) (d : PyData), EnvR X.K f H σV σ ∧ Is X.K f H v d ∧ g d σ = some σ' ∧ ∀ σV', EnvR X.K f H σV' σ' → Agr is σV σV' → Q σV' H
def DG (X : Cx) (e : Expr) (g : Tg) (is : List Nat) : Prop := PG X e (TG_ X g is)
theorem pg_imp {X : Cx} {e : Expr} {t t' : TG} (h : PG X e t) (i : ∀ v σ H Q, t' v σ H Q → t v σ H Q) : PG X e t' := ⟨fun pins s σ H v u Q I r q => h.run pins s σ H v u Q I r (i v σ H Q q)⟩
section
variable {X : Cx} {W : WX} {pos : Pos}
theorem dg_var {i : Nat} {x : Str} (hN : X.N.Nodup) (hi : X.N[i]? = some x := by rfl) (hx : Loc X.env.scope x := by first | exact Or.inl rfl | exact Or.inr rfl) (hf : X.fn x = true ∨ X.env.scope.names.lookup x = some .local := by first | exact .inl rfl | exact .inr rfl) : DG X (.Name x pos) (gVar i) [i] :=
  pg_imp (pg_name hN hi hx hf) fun v σV H Q ⟨f, σ, σ', d, hE, hv, hg, q⟩ => by
    cases hg
    exact q _ (hE.set i hv) ⟨by simp, fun j n => List.getElem?_set_ne fun z => n (by simp [z])⟩
theorem dg_pair {e1 e2 : Expr} {k : Nat} {g1 g2 : Tg} {i1 i2 : List Nat} (hc : X.calm = true) (h1 : DG X e1 g1 i1) (h2 : DG X e2 g2 i2)
    (hs1 : (assignEach [e1, e2] X.env).map (·.2) = assign e1 X.env :: (assignEach [e2] X.env).map (·.2) := by rfl) (hs2 : (assignEach [e2] X.env).map (·.2) = assign e2 X.env :: (assignEach [] X.env).map (·.2) := by rfl)
    (hn : (assignEach [e1, e2] X.env).length = 2 := by rfl) (hst : (assignEach [e1, e2] X.env).findIdx? (·.1) = none := by rfl) : DG X (.Tuple [e1, e2] k pos) (gPair g1 g2) (i1 ++ i2) :=
  pg_imp (pg_tup hc (pgs_cons h1 (pgs_cons h2 pgs_nil hs2) hs1) hn hst) fun v σV H Q ⟨f, σ, σ', d, hE, hv, hg, q⟩ => by
    unfold gPair at hg
    split at hg
    · rename_i x y
      cases hv with
      | @tup a xs _ ht ha =>
      cases ha with
      | @cons v1 vs1 _ _ h1' r1 =>
      cases r1 with
      | @cons v2 vs2 _ _ h2' r2 =>
      cases r2
      cases hg1 : g1 x σ with
      | none => rw [hg1] at hg; cases hg
      | some σ1 =>
        rw [hg1] at hg
        have hg : g2 y σ1 = some σ' := hg
        exact ⟨a, _, rfl, ht.sq, rfl, v1, [v2], rfl, ⟨f, σ, σ1, x, hE, h1', hg1, fun σV1 e1 a1 => ⟨v2, [], rfl, ⟨f, σ1, σ', y, e1, h2', hg, fun σV2 e2 a2 => ⟨rfl, q σV2 e2 (a1.trans a2)⟩⟩⟩⟩⟩
    · cases hg
theorem dg_trip {e1 e2 e3 : Expr} {k : Nat} {g1 g2 g3 : Tg} {i1 i2 i3 : List Nat} (hc : X.calm = true) (h1 : DG X e1 g1 i1) (h2 : DG X e2 g2 i2) (h3 : DG X e3 g3 i3)
    (hs1 : (assignEach [e1, e2, e3] X.env).map (·.2) = assign e1 X.env :: (assignEach [e2, e3] X.env).map (·.2) := by rfl) (hs2 : (assignEach [e2, e3] X.env).map (·.2) = assign e2 X.env :: (assignEach [e3] X.env).map (·.2) := by rfl)
    (hs3 : (assignEach [e3] X.env).map (·.2) = assign e3 X.env :: (assignEach [] X.env).map (·.2) := by rfl)
    (hn : (assignEach [e1, e2, e3] X.env).length = 3 := by rfl) (hst : (assignEach [e1, e2, e3] X.env).findIdx? (·.1) = none := by rfl) : DG X (.Tuple [e1, e2, e3] k pos) (gTrip g1 g2 g3) (i1 ++ i2 ++ i3) :=
  pg_imp (pg_tup hc (pgs_cons h1 (pgs_cons h2 (pgs_cons h3 pgs_nil hs3) hs2) hs1) hn hst) fun v σV H Q ⟨f, σ, σ', d, hE, hv, hg, q⟩ => by
    unfold gTrip at hg
    split at hg
    · rename_i x y z
      cases hv with
      | @tup a xs _ ht ha =>
      cases ha with
      | @cons v1 vs1 _ _ h1' r1 =>
      cases r1 with
      | @cons v2 vs2 _ _ h2' r2 =>
      cases r2 with
      | @cons v3 vs3 _ _ h3' r3 =>
      cases r3
      cases hg1 : g1 x σ with
      | none => rw [hg1] at hg; cases hg
      | some σ1 =>
        rw [hg1] at hg
        have hg : (g2 y σ1).bind (g3 z) = some σ' := hg
        cases hg2 : g2 y σ1 with
        | none => rw [hg2] at hg; cases hg
        | some σ2 =>
          rw [hg2] at hg
          have hg : g3 z σ2 = some σ' := hg
          exact ⟨a, _, rfl, ht.sq, rfl, v1, [v2, v3], rfl, ⟨f, σ, σ1, x, hE, h1', hg1, fun σV1 e1 a1 => ⟨v2, [v3], rfl, ⟨f, σ1, σ2, y, e1, h2', hg2, fun σV2 e2 a2 => ⟨v3, [], rfl, ⟨f, σ2, σ', z, e2, h3', hg, fun σV3 e3 a3 => ⟨rfl, q σV3 e3 ((a1.trans a2).trans a3)⟩⟩⟩⟩⟩⟩⟩
    · cases hg

/-! ### plain statements -/
@[simp] def sNil (σ : Sg) (S : Sto) : Option Flow := some (.nx σ S)
@[simp] def sSet (i : Nat) (e : Ex) (σ : Sg) (S : Sto) : Option Flow := Sm.bnd (e σ S) fun v S1 => some (.nx (σ.set i (some v)) S1)
@[simp] def sNew (i : Nat) (e : Nw) (σ : Sg) (S : Sto) : Option Flow := Sm.bnd (e σ S) fun ob S1 => some (.nx (σ.set i (some (.r S1.length))) (S1 ++ [ob]))
@[simp] def sAsg (g : Tg) (e : Ex) (σ : Sg) (S : Sto) : Option Flow := Sm.bnd (e σ S) fun v S1 => match v with
  | .d d => (g d σ).map fun σ' => .nx σ' S1
  | _ => none
@[simp] def sDo (e : Ex) (σ : Sg) (S : Sto) : Option Flow := Sm.bnd (e σ S) fun _ S1 => some (.nx σ S1)
@[simp] def sRet (e : Ex) (σ : Sg) (S : Sto) : Option Flow := Sm.bnd (e σ S) fun v S1 => some (.rt v S1)
@[simp] def sRetNew (e : Nw) (σ : Sg) (S : Sto) : Option Flow := Sm.bnd (e σ S) fun ob S1 => some (.rt (.r S1.length) (S1 ++ [ob]))
@[simp] def sRetN (_ : Sg) (S : Sto) : Option Flow := some (.rt (.d .none) S)
@[simp] def sIf (c : Tst) (a b : Sm) (σ : Sg) (S : Sto) : Option Flow := Sm.bnd (c σ S) fun x S1 => if x = true then a σ S1 else b σ S1
@[simp] def sSeq (a b : Sm) (σ : Sg) (S : Sto) : Option Flow := match a σ S with
  | some (.nx σ' S') => b σ' S'
  | r => r
@[simp] def sPar (i j : Nat) (as : Exs) (σ : Sg) (S : Sto) : Option Flow := Sm.bnd (as σ S) fun vs S1 => match vs with
  | [x, y] => some (.nx ((σ.set i (some x)).set j (some y)) S1)
  | _ => none

variable {e : Expr} {ee : Ex} {en : Nw} {st : Stmt} {sts : List Stmt} {m n : Sm}
theorem ds_set {i : Nat} {x : Str} {pos' : Pos} (hN : X.N.Nodup) (hi : X.N[i]? = some x) (hx : Loc X.env.scope x) (he : DE X W e ee) (hs : swapsWith e (some (.Name x pos')) pos.line X.env = pure false := by rfl) (hf : X.fn x = true ∨ X.env.scope.names.lookup x = some .local := by first | exact .inl rfl | exact .inr rfl) :
    DS X W (.Assign [.Name x pos'] e pos) (sSet i ee) :=
  ps_imp (ps_set hN hi hx he hs hf) fun D σV H ⟨f, σ, S, r, hE, hS, hr, hf⟩ => by
    refine TX.stm hE hS hr hf fun v S1 u H1 h1 f1 s1 k1 e1 r1 => ?_
    cases h1
    exact ReS.now f1 s1 (e1.set i r1)
theorem ds_new {i : Nat} {x : Str} {pos' : Pos} (hN : X.N.Nodup) (hi : X.N[i]? = some x) (hx : Loc X.env.scope x) (he : DN X W e en) (hs : swapsWith e (some (.Name x pos')) pos.line X.env = pure false := by rfl) (hf : X.fn x = true ∨ X.env.scope.names.lookup x = some .local := by first | exact .inl rfl | exact .inr rfl) :
    DS X W (.Assign [.Name x pos'] e pos) (sNew i en) :=
  ps_imp (ps_set hN hi hx he hs hf) fun D σV H ⟨f, σ, S, r, hE, hS, hr, hf⟩ => by
    refine TN.stm hE hS hr hf fun ob S1 p H1 h1 f1 s1 k1 e1 _ => ?_
    cases h1
    refine ReS.now f1 s1 (e1.set i ⟨p, ?_, rfl⟩)
    have hl : f.o.length = S1.length := by
      have := s1.len
      simp [Ow.add] at this
      exact this
    show (f.o ++ [p])[S1.length]? = some p
    rw [← hl]; simp
theorem ds_asg {tg : Expr} {g : Tg} {is : List Nat} (he : DE X W e ee) (hg : DG X tg g is) (hs : swapsWithSole [tg] e pos.line X.env = pure false := by rfl) (hw : swappedStores [tg] e X.env = pure none := by rfl)
    (h1 : (assignEach [tg] X.env).map (·.2) = [assign tg X.env] := by rfl) : DS X W (.Assign [tg] e pos) (sAsg g ee) :=
  ps_imp (ps_asg he hg hs hw h1) fun D σV H ⟨f, σ, S, r, hE, hS, hr, hf⟩ => by
    refine TX.stm hE hS hr hf fun v S1 u H1 h1 f1 s1 k1 e1 r1 => ?_
    cases v with
    | r i => cases h1
    | s ns => cases h1
    | k a x c d => cases h1
    | t a1 a2 a3 a4 a5 => cases h1
    | d d =>
      cases hg : g d σ with
      | none =>
        dsimp only at h1
        rw [hg] at h1; cases h1
      | some σ' =>
        dsimp only at h1
        rw [hg] at h1; cases h1
        exact ⟨f, σ, σ', d, e1, r1, hg, fun σV' e' _ => ReS.now f1 s1 e'⟩
theorem ds_do (he : DE X W e ee) (hs : swapsWith e none pos.line X.env = pure false := by rfl) : DS X W (.Expr e pos) (sDo ee) :=
  ps_imp (ps_expr he hs) fun D σV H ⟨f, σ, S, r, hE, hS, hr, hf⟩ => by
    refine TX.stm hE hS hr hf fun v S1 u H1 h1 f1 s1 k1 e1 r1 => ?_
    cases h1
    exact ReS.now f1 s1 e1
theorem ds_ret (he : DE X W e ee) : DS X W (.Return (some e) pos) (sRet ee) :=
  ps_imp (ps_ret he) fun D σV H ⟨f, σ, S, r, hE, hS, hr, hf⟩ => by
    refine TX.stm hE hS hr hf fun v S1 u H1 h1 f1 s1 k1 e1 r1 => ?_
    cases h1
    exact ReV.now f1 s1 r1
theorem ds_retNew (he : DN X W e en) : DS X W (.Return (some e) pos) (sRetNew en) :=
  ps_imp (ps_ret he) fun D σV H ⟨f, σ, S, r, hE, hS, hr, hf⟩ => by
    refine TN.stm hE hS hr hf fun ob S1 p H1 h1 f1 s1 k1 e1 _ => ?_
    cases h1
    refine ReV.now f1 s1 ⟨p, ?_, rfl⟩
    have hl : f.o.length = S1.length := by
      have := s1.len
      simp [Ow.add] at this
      exact this
    show (f.o ++ [p])[S1.length]? = some p
    rw [← hl]; simp
theorem ds_retN : DS X W (.Return none pos) sRetN :=
  ps_imp ps_retN fun D σV H ⟨f, σ, S, r, hE, hS, hr, hf⟩ => by
    cases hr
    exact ReV.now hf hS Is.non
theorem ds_pass : DS X W (.Pass pos) sNil := ps_imp ps_pass fun D σV H ⟨f, σ, S, r, hE, hS, hr, hf⟩ => by
  cases hr
  exact ReS.now hf hS hE
@[simp] def sBrk (σ : Sg) (S : Sto) : Option Flow := some (.bk σ S)
@[simp] def sCont (σ : Sg) (S : Sto) : Option Flow := some (.ct σ S)
theorem ds_break : DS X W (.Break pos) sBrk := ps_imp ps_break fun D σV H ⟨f, σ, S, r, hE, hS, hr, hf⟩ => by
  cases hr
  exact ReS.now hf hS hE
theorem ds_cont : DS X W (.Continue pos) sCont := ps_imp ps_continue fun D σV H ⟨f, σ, S, r, hE, hS, hr, hf⟩ => by
  cases hr
  exact ReS.now hf hS hE
/-- what is never reached -/
@[simp] def sNo (_ : Sg) (_ : Sto) : Option Flow := none
theorem ds_no : DS X W st sNo := ps_imp ps_never fun D σV H ⟨f, σ, S, r, hE, hS, hr, hf⟩ => nomatch hr
theorem db_no : DB X W sts sNo := pss_imp pss_never fun D σV H ⟨f, σ, S, r, hE, hS, hr, hf⟩ => nomatch hr
theorem db_nil : DB X W [] sNil := pss_imp pss_nil fun D σV H ⟨f, σ, S, r, hE, hS, hr, hf⟩ => by
  cases hr
  exact ReS.now hf hS hE
theorem db_one (h : DS X W st m) : DB X W [st] m := pss_one h
theorem db_cons (h1 : DS X W st m) (h2 : DB X W sts n) : DB X W (st :: sts) (sSeq m n) :=
  pss_imp (pss_cons h1 h2) fun D σV H ⟨f, σ, S, r, hE, hS, hr, hf⟩ => by
    cases hm : m σ S with
    | none =>
      unfold sSeq at hr
      rw [hm] at hr; cases hr
    | some q =>
      unfold sSeq at hr
      rw [hm] at hr
      refine ⟨f, σ, S, q, hE, hS, hm, ?_⟩
      cases q with
      | nx σ' S' =>
        intro ex σV' H' n1 s1 k1 e1
        exact ⟨f.add ex, σ', S', r, e1, s1, hr, hf.step n1 s1 k1⟩
      | rt v S' => cases hr; exact hf
      | bk σ' S' => cases hr; exact hf
      | ct σ' S' => cases hr; exact hf
      | exc x S' => cases hr; exact hf
theorem ds_if {c : Expr} {tc : Tst} {a b : List Stmt} (hc : DT X W c tc) (ha : DB X W a m) (hb : DB X W b n) : DS X W (.If c a b pos) (sIf tc m n) :=
  ps_imp (ps_if hc ha hb) fun D σV H ⟨f, σ, S, r, hE, hS, hr, hf⟩ => by
    refine TT_.stm hE hS hr hf fun x S1 H1 h1 f1 s1 k1 e1 => ?_
    cases x with
    | true =>
      rw [if_pos rfl] at h1 ⊢
      exact ⟨f, σ, S1, r, e1, s1, h1, f1⟩
    | false =>
      rw [if_neg Bool.false_ne_true] at h1 ⊢
      exact ⟨f, σ, S1, r, e1, s1, h1, f1⟩
theorem ds_par {i j : Nat} {x y : Str} {a b : Expr} {fs : Exs} {px py pt : Pos} {kt k2 pt2} (hc : X.calm = true) (hN : X.N.Nodup) (ha : DA X W [a, b] fs) (hi : X.N[i]? = some x := by rfl) (hj : X.N[j]? = some y := by rfl) (hij : i ≠ j := by decide)
    (hx : X.env.scope.names.lookup x = some .local := by rfl) (hy : X.env.scope.names.lookup y = some .local := by rfl)
    (hw : swappedStores [.Tuple [.Name x px, .Name y py] kt pt] (.Tuple [a, b] k2 pt2) X.env = pure (some [x, y]) := by rfl)
    (hs : swapsWithSole [.Tuple [.Name x px, .Name y py] kt pt] (.Tuple [a, b] k2 pt2) pos.line X.env = pure false := by rfl) :
    DS X W (.Assign [.Tuple [.Name x px, .Name y py] kt pt] (.Tuple [a, b] k2 pt2) pos) (sPar i j fs) :=
  ps_imp (ps_par hc hN hi hj hij hx hy ha hw hs) fun D σV H ⟨f, σ, S, r, hE, hS, hr, hf⟩ => by
    refine TXs.stm hE hS hr hf fun vs S1 us H1 h1 f1 s1 k1 e1 r1 => ?_
    split at h1
    · cases h1
      cases r1 with
      | cons p1 q1 =>
      cases q1 with
      | cons p2 q2 =>
      cases q2
      exact ⟨_, _, rfl, ReS.now f1 s1 ((e1.set i p1).set j p2)⟩
    · cases h1
end
end Z
set_option maxRecDepth 100000
namespace Z
open PySem PySem.Spec PyProof.Rows L2

/-! ## loops -/
/-- what is walked: the items; a list of the store that must stay as it is -/
structure Wk where
  ds : List PyData
  own : Option (Nat × List PyData) := none
abbrev Wl := Sg → Sto → Option (Res Wk)
def gdOk (o : Option (Nat × List PyData)) (S : Sto) : Prop := match o with
  | none => True
  | some (j, ds) => S[j]? = some (.lst ds)
structure Walks (X : Cx) (f : Ow) (H : Hp) (J : It) (w : Wk) : Prop where
  item : ∀ (i : Nat) (d : PyData) (f' : Ow) (S : Sto) (H' : Hp), w.ds[i]? = some d → Kq f H H' → Gr f f' H → Pf f f' → StoR X.K f' S H' → gdOk w.own S →
    J.go i H' ∧ ∀ x H'', J.yld i H' x H'' → StoR X.K f' S H'' ∧ Kp f' H' H'' ∧ Is X.K f' H'' x d
  stop : ∀ (i : Nat) (f' : Ow) (S : Sto) (H' : Hp), w.ds.length ≤ i → Kq f H H' → Gr f f' H → Pf f f' → StoR X.K f' S H' → gdOk w.own S → J.stop i H'
def TI_ (X : Cx) (W : WX) (w : Wl) : TI := fun σV H R => ∃ (f : Ow) (σ : Sg) (S : Sto) (r : Res Wk), EnvR X.K f H σV σ ∧ StoR X.K f S H ∧ w σ S = some r ∧
  match r with
  | .ok wk S' => ∀ (J : It) (H' : Hp), StoR X.K f S' H' → Kp f H H' → Walks X f H' J wk → R J H'
  | .exc x S' => XS X W f σV H x S'
def DI (X : Cx) (W : WX) (tg iter : Expr) (w : Wl) : Prop := PI X tg iter (TI_ X W w)
theorem pi_imp {X : Cx} {tg e : Expr} {t t' : TI} (h : PI X tg e t) (i : ∀ σ H Q, t' σ H Q → t σ H Q) : PI X tg e t' := ⟨fun pins s σ H Q I q => h.run pins s σ H Q I (i σ H Q q)⟩

open Classical in
noncomputable def forGo (own : Option (Nat × List PyData)) (g : Tg) (body : Sm) : List PyData → Sm
  | [] => fun σ S => if gdOk own S then some (.nx σ S) else none
  | d :: ds => fun σ S => if gdOk own S then (g d σ).bind fun σ1 => match body σ1 S with
    | some (.nx σ2 S2) => forGo own g body ds σ2 S2
    | some (.ct σ2 S2) => forGo own g body ds σ2 S2
    | some (.bk σ2 S2) => some (.nx σ2 S2)
    | some (.rt v S2) => some (.rt v S2)
    | some (.exc x S2) => some (.exc x S2)
    | none => none
    else none
@[simp] noncomputable def sFor (w : Wl) (g : Tg) (body : Sm) (σ : Sg) (S : Sto) : Option Flow := Sm.bnd (w σ S) fun wk S1 => forGo wk.own g body wk.ds σ S1
section
variable {X : Cx} {W : WX} {pos : Pos} {tg iter : Expr} {w : Wl} {g : Tg} {body : List Stmt} {m : Sm}
theorem ds_for (hp : PassesOwn (model X.prog X.w) X.A X.env X.xe) (hc : X.calm = true) (hi : DI X W tg iter w) {is : List Nat} (hg : DG X tg g is) (hb : DB X W body m) (hs : ∀ x, foldedSetIterable iter X.env x = pure x := by intro _; rfl) :
    DS X W (.For tg iter body [] pos) (sFor w g m) :=
  ps_imp (ps_for hp hc hi hg hb hs) fun D σV H ⟨f, σ, S, r, hE, hS, hr, hf⟩ => by
    unfold sFor at hr
    cases e1 : w σ S with
    | none => rw [e1] at hr; cases hr
    | some q =>
    rw [e1] at hr
    refine ⟨f, σ, S, q, hE, hS, e1, ?_⟩
    cases q with
    | exc x S1 =>
      cases hr
      exact XS.of hf
    | ok wk S1 =>
    intro J H1 s1 k1 wks
    have f1 := hf.kp s1 k1
    have hr : forGo wk.own g m wk.ds σ S1 = some r := hr
    refine ⟨fun i mm σV2 H2 => mm = wk.ds.length - i ∧ i ≤ wk.ds.length ∧ ∃ (ex : List Addr) (σ2 : Sg) (S2 : Sto), Kp f H1 H2 ∧ (∀ a ∈ ex, H1 a = none) ∧ EnvR X.K (f.add ex) H2 σV2 σ2 ∧ StoR X.K (f.add ex) S2 H2 ∧ forGo wk.own g m (wk.ds.drop i) σ2 S2 = some r ∧ Fl X W (f.add ex) H2 D r,
      ⟨_, by rfl, Nat.zero_le _, [], σ, S1, Kp.refl _ _, (fun _ z => nomatch z), by rw [Ow.add_nil]; exact hE.kp k1, by rw [Ow.add_nil]; exact s1, hr, by rw [Ow.add_nil]; exact f1⟩, ?_⟩
    rintro i mm σV2 H2 ⟨rfl, hi, ex, σ2, S2, k2, n2, e2, s2, r2, f2⟩
    by_cases hlt : i < wk.ds.length
    · right
      rw [List.drop_eq_getElem_cons hlt] at r2
      unfold forGo at r2
      split at r2
      · rename_i hgd
        have hget : wk.ds[i]? = some wk.ds[i] := List.getElem?_eq_getElem hlt
        obtain ⟨go, yl⟩ := wks.item i _ (f.add ex) S2 H2 hget k2.q (Gr.app n2) (Pf.add _ _) s2 hgd
        cases hgs : g wk.ds[i] σ2 with
        | none => rw [hgs] at r2; cases r2
        | some σ3 =>
        rw [hgs] at r2
        dsimp only [Option.bind_some] at r2
        refine ⟨go, fun σV' H' => (i + 1 ≤ wk.ds.length ∧ ∃ (ex : List Addr) (σ2 : Sg) (S2 : Sto), Kp f H1 H' ∧ (∀ a ∈ ex, H1 a = none) ∧ EnvR X.K (f.add ex) H' σV' σ2 ∧ StoR X.K (f.add ex) S2 H' ∧ forGo wk.own g m (wk.ds.drop (i + 1)) σ2 S2 = some r ∧ Fl X W (f.add ex) H' D r), fun σV' H' h => ⟨wk.ds.length - (i + 1), by omega, rfl, h.1, h.2⟩, fun x H3 hy => ?_⟩
        obtain ⟨s3, k3, i3⟩ := yl x H3 hy
        refine ⟨f.add ex, σ2, σ3, _, e2.kp k3, i3, hgs, fun σV3 e3 _ => ?_⟩
        have f3 := f2.kp s3 k3
        cases hm : m σ3 S2 with
        | none => rw [hm] at r2; cases r2
        | some q =>
        rw [hm] at r2
        refine ⟨f.add ex, σ3, S2, q, e3, s3, hm, ?_⟩
        have next : ∀ (σ' : Sg) (S' : Sto), forGo wk.own g m (wk.ds.drop (i + 1)) σ' S' = some r → ReS X (f.add ex) H3 σ' S' (fun σV' H' => (i + 1 ≤ wk.ds.length ∧ ∃ (ex : List Addr) (σ2 : Sg) (S2 : Sto), Kp f H1 H' ∧ (∀ a ∈ ex, H1 a = none) ∧ EnvR X.K (f.add ex) H' σV' σ2 ∧ StoR X.K (f.add ex) S2 H' ∧ forGo wk.own g m (wk.ds.drop (i + 1)) σ2 S2 = some r ∧ Fl X W (f.add ex) H' D r)) := by
          intro σ' S' hgo ex' σV' H' n' s' k' e'
          have k23 : Kp f H1 H3 := Kp.more n2 k2 k3
          exact ⟨hlt, ex ++ ex', σ', S', Kp.more n2 k23 k', fresh_app (X := X) n2 s3 k23 s3.all n', by rw [← Ow.add_add]; exact e', by rw [← Ow.add_add]; exact s', hgo, by rw [← Ow.add_add]; exact f3.step n' s' k'⟩
        cases q with
        | nx σ' S' => exact next σ' S' r2
        | ct σ' S' => exact next σ' S' r2
        | bk σ' S' => cases r2; exact f3
        | rt v S' => cases r2; exact f3
        | exc x S' => cases r2; exact f3
      · cases r2
    · left
      have hi2 : i = wk.ds.length := by omega
      subst hi2
      rw [List.drop_length] at r2
      unfold forGo at r2
      split at r2
      · rename_i hgd
        cases r2
        exact ⟨wks.stop _ (f.add ex) S2 H2 (Nat.le_refl _) k2.q (Gr.app n2) (Pf.add _ _) s2 hgd, ReS.now f2 s2 e2⟩
      · cases r2
end
/-! ## comprehensions -/
@[simp] def wipeS (σ : Sg) : List Nat → Sg
  | [] => σ
  | i :: vs => (wipeS σ vs).set i none
theorem wipe_get {σ : L2.St} {j : Nat} : ∀ {vs : List Nat}, (wipe σ vs)[j]? = if j ∈ vs ∧ j < σ.length then some none else σ[j]?
  | [] => by simp [wipe]
  | i :: vs => by
    have ih := wipe_get (σ := σ) (j := j) (vs := vs)
    have hl := wipe_length σ vs
    by_cases hj : i = j
    · subst hj
      by_cases h : i < σ.length
      · simp [wipe, h, hl]
      · simp [wipe, h, hl]
    · simp only [wipe]
      rw [List.getElem?_set_ne hj, ih]
      have : (j ∈ i :: vs) ↔ j ∈ vs := by
        constructor
        · intro m
          rcases List.mem_cons.mp m with m | m
          · exact absurd m.symm hj
          · exact m
        · exact List.mem_cons_of_mem _
      simp only [this]
theorem wipe_agr {vs is : List Nat} {a b : L2.St} (h : Agr is a b) (hs : ∀ i ∈ is, i ∈ vs) : wipe b vs = wipe a vs := by
  apply List.ext_getElem?
  intro j
  rw [wipe_get, wipe_get, h.1]
  by_cases hj : j ∈ vs ∧ j < a.length
  · rw [if_pos hj, if_pos hj]
  · rw [if_neg hj, if_neg hj]
    by_cases hv : j ∈ is
    · have : ¬ j < a.length := fun z => hj ⟨hs j hv, z⟩
      have hb : ¬ j < b.length := by rw [h.1]; exact this
      rw [List.getElem?_eq_none (by omega), List.getElem?_eq_none (by omega)]
    · exact h.2 j hv
theorem wipe_wipe {vs : List Nat} {a : L2.St} : wipe (wipe a vs) vs = wipe a vs := by
  apply List.ext_getElem?
  intro j
  rw [wipe_get, wipe_get, wipe_length]
  by_cases hj : j ∈ vs ∧ j < a.length
  · rw [if_pos hj, if_pos hj]
  · rw [if_neg hj]
theorem EnvR.wipe {K : PySem.W.Frag} {f : Ow} {H : Hp} {σV : L2.St} {σ : Sg} (h : EnvR K f H σV σ) : ∀ vs : List Nat, EnvR K f H (wipe σV vs) (wipeS σ vs)
  | [] => h
  | i :: vs => by
    have ih := EnvR.wipe h vs
    refine ⟨by simp [L2.wipe, wipeS, ih.len], fun j y e => ?_⟩
    unfold wipeS at e
    unfold L2.wipe
    by_cases hj : i = j
    · subst hj
      by_cases hi : i < (wipeS σ vs).length
      · rw [List.getElem?_set_self hi] at e; cases e
      · rw [List.getElem?_eq_none (by simpa using hi)] at e; cases e
    · rw [List.getElem?_set_ne hj] at e
      obtain ⟨u, e1, r1⟩ := ih.get j y e
      exact ⟨u, by rw [List.getElem?_set_ne hj]; exact e1, r1⟩
open Classical in
/-- what a comprehension makes: the store behind it, the items -/
noncomputable def cmpGo (own : Option (Nat × List PyData)) (g : Tg) (t : Tst) (e : Ex) (σ0 : Sg) : List PyData → List PyData → Sto → Option (Sto × List PyData)
  | [], acc, S => if gdOk own S then some (S, acc) else none
  | d :: ds, acc, S => if gdOk own S then (g d σ0).bind fun σ1 => match t σ1 S with
    | some (.ok true S1) => match e σ1 S1 with
      | some (.ok (.d x) S2) => if acc.length < sizeLine then cmpGo own g t e σ0 ds (acc ++ [x]) S2 else none
      | _ => none
    | some (.ok false S1) => cmpGo own g t e σ0 ds acc S1
    | _ => none
    else none
@[simp] noncomputable def eComp (w : Wl) (g : Tg) (t : Tst) (e : Ex) (vs : List Nat) (σ : Sg) (S : Sto) : Option (Res SV) := Res.bnd (w σ S) fun wk S1 => (cmpGo wk.own g t e (wipeS σ vs) wk.ds [] S1).map fun r => .ok (.d (.list r.2)) r.1
/-- no exception leaves a comprehension -/
def W0 : WX := fun _ _ _ _ => False
@[simp] def tTrue (_ : Sg) (S : Sto) : Option (Res Bool) := some (.ok true S)
theorem lc_go {X : Cx} {W : WX} {w : Wl} {g : Tg} {is vs : List Nat} {t : Tst} {e : Ex} (his : ∀ i ∈ is, i ∈ vs) {σV : L2.St} {H : Hp} {Q : VK} (h : TX X W (eComp w g t e vs) σV H Q) : tLc (TI_ X W w) (TG_ X g is) (TT_ X W0 t) (TX X W0 e) vs σV H Q := by
  obtain ⟨f, σ, S, r, hE, hS, hr, hq⟩ := h
  unfold eComp at hr
  cases e1 : w σ S with
  | none => rw [e1] at hr; cases hr
  | some q =>
  rw [e1] at hr
  refine ⟨f, σ, S, q, hE, hS, e1, ?_⟩
  cases q with
  | exc x S1 =>
    cases hr
    exact hq
  | ok wk S1 =>
  intro J H1 s1 k1 wks D hD
  rw [bnd_ok] at hr
  cases hc : cmpGo wk.own g t e (wipeS σ vs) wk.ds [] S1 with
  | none => rw [hc] at hr; cases hr
  | some fin =>
  rw [hc] at hr
  cases hr
  have hDo : D ∉ f.o := (s1.free hD).1
  refine ⟨fun i m Hh => m = wk.ds.length - i ∧ i ≤ wk.ds.length ∧ ∃ (S2 : Sto) (acc : List PyData) (va : List V), StoR X.K (f.ban D) S2 Hh ∧ Kp f H1 Hh ∧ Hh D = some (.lst va) ∧ IsAll X.K (f.ban D) Hh va acc ∧ cmpGo wk.own g t e (wipeS σ vs) (wk.ds.drop i) acc S2 = some fin,
    ⟨_, by rfl, Nat.zero_le _, S1, [], [], s1.ban hD, Kp.new hD, upd_same, .nil, hc⟩, ?_⟩
  rintro i m Hh ⟨rfl, hi, S2, acc, va, s2, k2, eD, ia, hgo⟩
  have eE : EnvR X.K (f.ban D) Hh (wipe σV vs) (wipeS σ vs) := (((hE.kp k1).keep k2.q (Gr.ban hD) (Pf.ban _ _)).wipe vs)
  by_cases hlt : i < wk.ds.length
  · right
    rw [List.drop_eq_getElem_cons hlt] at hgo
    unfold cmpGo at hgo
    split at hgo
    · rename_i hgd
      obtain ⟨go, yl⟩ := wks.item i _ (f.ban D) S2 Hh (List.getElem?_eq_getElem hlt) k2.q (Gr.ban hD) (Pf.ban _ _) s2 hgd
      cases hgs : g wk.ds[i] (wipeS σ vs) with
      | none => rw [hgs] at hgo; cases hgo
      | some σ1 =>
      rw [hgs] at hgo
      dsimp only [Option.bind_some] at hgo
      refine ⟨go, fun H' => (i + 1 ≤ wk.ds.length ∧ ∃ (S2 : Sto) (acc : List PyData) (va : List V), StoR X.K (f.ban D) S2 H' ∧ Kp f H1 H' ∧ H' D = some (.lst va) ∧ IsAll X.K (f.ban D) H' va acc ∧ cmpGo wk.own g t e (wipeS σ vs) (wk.ds.drop (i + 1)) acc S2 = some fin), fun H' h => ⟨_, by omega, rfl, h.1, h.2⟩, fun x H3 hy => ?_⟩
      obtain ⟨s3, k3, i3⟩ := yl x H3 hy
      refine ⟨f.ban D, wipeS σ vs, σ1, _, eE.kp k3, i3, hgs, fun σV3 e3 a3 => ⟨(wipe_agr a3 his).trans wipe_wipe, ?_⟩⟩
      cases ht : t σ1 S2 with
      | none => rw [ht] at hgo; cases hgo
      | some q =>
      rw [ht] at hgo
      refine ⟨f.ban D, σ1, S2, q, e3, s3, ht, ?_⟩
      cases q with
      | exc x S' => cases hgo
      | ok b S3 =>
      intro H4 s4 k4
      have kb : Kp f Hh H4 := k3.trans k4
      cases b with
      | false =>
        rw [if_neg Bool.false_ne_true]
        exact ⟨hlt, S3, acc, va, s4, k2.trans kb, kb D _ hDo eD, ia.keep (Kp.q (f := f.ban D) kb) (Gr.refl _ _), hgo⟩
      | true =>
        rw [if_pos rfl]
        dsimp only at hgo
        cases he : e σ1 S3 with
        | none => rw [he] at hgo; cases hgo
        | some q =>
        rw [he] at hgo
        refine ⟨f.ban D, σ1, S3, q, e3.kp k4, s4, he, ?_⟩
        cases q with
        | exc x S' => cases hgo
        | ok y S4 =>
        intro v H5 s5 k5 r5
        cases y with
        | r j => cases hgo
        | s ns => cases hgo
        | k a x c d => cases hgo
        | t a1 a2 a3 a4 a5 => cases hgo
        | d y =>
        dsimp only at hgo
        split at hgo
        · rename_i hz
          have kc : Kp f Hh H5 := kb.trans k5
          have eD5 := kc D _ hDo eD
          have ia5 := ia.keep (Kp.q (f := f.ban D) kc) (Gr.refl _ _)
          refine ⟨va, eD5, by rw [ia.len]; exact hz, hlt, S4, acc ++ [y], va ++ [v], s5.sly eD5, fun a o na ea => ?_, upd_same, ?_, hgo⟩
          · rw [upd_ne (ne_of_none ea hD)]
            exact kc a o na (k2 a o na ea)
          · exact (ia5.keep Kq.sly (Gr.refl _ _)).app (.cons (Is.keep Kq.sly (Gr.refl _ _) r5) .nil)
        · cases hgo
    · cases hgo
  · left
    have hi2 : i = wk.ds.length := by omega
    subst hi2
    rw [List.drop_length] at hgo
    unfold cmpGo at hgo
    split at hgo
    · rename_i hgd
      cases hgo
      refine ⟨wks.stop _ (f.ban D) S2 Hh (Nat.le_refl _) k2.q (Gr.ban hD) (Pf.ban _ _) s2 hgd, ?_⟩
      exact hq _ Hh s2.unban (k1.trans k2) (Is.lst ⟨eD, s1.free hD⟩ (ia.keep (Kq.refl _ _) Gr.unban))
    · cases hgo
section
variable {X : Cx} {W : WX} {pos : Pos} {tg iter elt : Expr} {ifs : List Expr} {scope : Scope} {own : List (Str × Nat)} {w : Wl} {g : Tg} {t : Tst} {e : Ex} {is : List Nat}
def DTs (X : Cx) (ifs : List Expr) (t : Tst) : Prop := PTs X ifs (TT_ X W0 t)
theorem dts_nil {X : Cx} : DTs X [] tTrue := ⟨fun pins s σV H Q I ⟨f, σ, S, r, hE, hS, hr, hq⟩ => by
  cases hr
  exact pts_nil.run pins s σV H Q I (hq H hS (Kp.refl _ _))⟩
theorem dts_one {X : Cx} {c : Expr} {t : Tst} (h : DT X W0 c t) : DTs X [c] t := pts_one h
theorem de_comp (hc : X.calm = true) (hN : X.N.Nodup) (hi : DI X W tg iter w) (ok : BlkOk X.N X.env.scope scope own) (his : ∀ i ∈ is, i ∈ own.map (·.2))
    (hg : ∀ (s : Shared) (H : Hp) (C : Addr) (cl : List (Str × Addr)) (fp : List Addr), DG (X.blk s H scope (compEnvC scope cl C X.env) fp) tg g is) (ht : ∀ (s : Shared) (H : Hp) (C : Addr) (cl : List (Str × Addr)) (fp : List Addr), DTs (X.blk s H scope (compEnvC scope cl C X.env) fp) ifs t)
    (he : ∀ (s : Shared) (H : Hp) (C : Addr) (cl : List (Str × Addr)) (fp : List Addr), DE (X.blk s H scope (compEnvC scope cl C X.env) fp) W0 elt e) (hs : ∀ x, foldedSetIterable iter X.env x = pure x := by intro _; rfl) :
    DE X W (.ListComp elt [⟨tg, iter, ifs, 0⟩] scope pos) (eComp w g t e (own.map (·.2))) :=
  pe_imp (pe_lc (g := TG_ X g is) (tt := TT_ X W0 t) (te := TX X W0 e) hc hN hi ok hg ht he hs) fun _ _ _ h => lc_go his h
/-- y = [..] -/
theorem ds_setLc {i : Nat} {y : Str} {py spos : Pos} (hc : X.calm = true) (hN : X.N.Nodup) (hy : X.N[i]? = some y) (hyl : X.env.scope.names.lookup y = some .local)
    (hsw : swapsWith (.ListComp elt [⟨tg, iter, ifs, 0⟩] scope pos) (some (.Name y py)) spos.line X.env = pure true) (hi : DI X W tg iter w) (ok : BlkOk X.N X.env.scope scope own) (his : ∀ i ∈ is, i ∈ own.map (·.2))
    (hg : ∀ (s : Shared) (H : Hp) (C : Addr) (cl : List (Str × Addr)) (fp : List Addr), DG (X.blk s H scope (compEnvC scope cl C X.env) fp) tg g is) (ht : ∀ (s : Shared) (H : Hp) (C : Addr) (cl : List (Str × Addr)) (fp : List Addr), DTs (X.blk s H scope (compEnvC scope cl C X.env) fp) ifs t)
    (he : ∀ (s : Shared) (H : Hp) (C : Addr) (cl : List (Str × Addr)) (fp : List Addr), DE (X.blk s H scope (compEnvC scope cl C X.env) fp) W0 elt e) (hs : ∀ x, foldedSetIterable iter X.env x = pure x := by intro _; rfl) :
    DS X W (.Assign [.Name y py] (.ListComp elt [⟨tg, iter, ifs, 0⟩] scope pos) spos) (sSet i (eComp w g t e (own.map (·.2)))) :=
  ps_imp (ps_setLc (g := TG_ X g is) (tt := TT_ X W0 t) (te := TX X W0 e) hc hN hy hyl hsw hi ok hg ht he hs) fun D σV H ⟨f, σ, S, r, hE, hS, hr, hf⟩ => by
    refine lc_go his ?_
    refine TX.stm hE hS hr hf fun v S1 u H1 h1 f1 s1 k1 e1 r1 => ?_
    cases h1
    exact ReS.now f1 s1 (e1.set i r1)
end

/-! ## while -/
def whGo (c : Tst) (b : Sm) : Nat → Sm
  | 0 => fun _ _ => none
  | n + 1 => fun σ S => Sm.bnd (c σ S) fun x S1 => if x = true then match b σ S1 with
    | some (.nx σ2 S2) => whGo c b n σ2 S2
    | some (.ct σ2 S2) => whGo c b n σ2 S2
    | some (.bk σ2 S2) => some (.nx σ2 S2)
    | some (.rt v S2) => some (.rt v S2)
    | some (.exc x S2) => some (.exc x S2)
    | none => none
    else some (.nx σ S1)
theorem ds_while {X : Cx} {W : WX} {pos : Pos} {c : Expr} {body : List Stmt} {tc : Tst} {m : Sm} (n : Nat) (hp : PassesOwn (model X.prog X.w) X.A X.env X.xe) (hc : DT X W c tc) (hb : DB X W body m) : DS X W (.While c body [] pos) (whGo tc m n) :=
  ps_imp (ps_while hp hc hb) fun D σV H ⟨f, σ, S, r, hE, hS, hr, hf⟩ => by
    refine ⟨fun n σV2 H2 => ∃ (ex : List Addr) (σ2 : Sg) (S2 : Sto), Kp f H H2 ∧ (∀ a ∈ ex, H a = none) ∧ EnvR X.K (f.add ex) H2 σV2 σ2 ∧ StoR X.K (f.add ex) S2 H2 ∧ whGo tc m n σ2 S2 = some r ∧ Fl X W (f.add ex) H2 D r,
      ⟨n, [], σ, S, Kp.refl _ _, (fun _ z => nomatch z), by rw [Ow.add_nil]; exact hE, by rw [Ow.add_nil]; exact hS, hr, by rw [Ow.add_nil]; exact hf⟩, ?_⟩
    rintro n σV2 H2 ⟨ex, σ2, S2, k2, n2, e2, s2, r2, f2⟩
    cases n with
    | zero => cases r2
    | succ n =>
    unfold whGo at r2
    refine TT_.stm e2 s2 r2 f2 fun x S3 H3 h3 f3 s3 k3 e3 => ?_
    have k23 : Kp f H H3 := Kp.more n2 k2 k3
    cases x with
    | false =>
      rw [if_neg Bool.false_ne_true] at h3 ⊢
      cases h3
      exact ReS.now f3 s3 e3
    | true =>
      rw [if_pos rfl] at h3 ⊢
      cases hm : m σ2 S3 with
      | none => rw [hm] at h3; cases h3
      | some q =>
      rw [hm] at h3
      refine ⟨fun σV' H' => ∃ (ex : List Addr) (σ2 : Sg) (S2 : Sto), Kp f H H' ∧ (∀ a ∈ ex, H a = none) ∧ EnvR X.K (f.add ex) H' σV' σ2 ∧ StoR X.K (f.add ex) S2 H' ∧ whGo tc m n σ2 S2 = some r ∧ Fl X W (f.add ex) H' D r, fun σV' H' h => ⟨n, Nat.lt_succ_self n, h⟩, f.add ex, σ2, S3, q, e3, s3, hm, ?_⟩
      have next : ∀ (σ' : Sg) (S' : Sto), whGo tc m n σ' S' = some r → ReS X (f.add ex) H3 σ' S' (fun σV' H' => ∃ (ex : List Addr) (σ2 : Sg) (S2 : Sto), Kp f H H' ∧ (∀ a ∈ ex, H a = none) ∧ EnvR X.K (f.add ex) H' σV' σ2 ∧ StoR X.K (f.add ex) S2 H' ∧ whGo tc m n σ2 S2 = some r ∧ Fl X W (f.add ex) H' D r) := by
        intro σ' S' hgo ex' σV' H' n' s' k' e'
        exact ⟨ex ++ ex', σ', S', Kp.more n2 k23 k', fresh_app (X := X) n2 s3 k23 s3.all n', by rw [← Ow.add_add]; exact e', by rw [← Ow.add_add]; exact s', hgo, by rw [← Ow.add_add]; exact f3.step n' s' k'⟩
      cases q with
      | nx σ' S' => exact next σ' S' h3
      | ct σ' S' => exact next σ' S' h3
      | bk σ' S' => cases h3; exact f3
      | rt v S' => cases h3; exact f3
      | exc x S' => cases h3; exact f3
end Z
set_option maxRecDepth 100000
namespace Z
open PySem PySem.Spec PyProof.Rows L2

theorem Gd.blk {X : Cx} {W : WX} {k : Nat} (g : Gd X W k) (s : Shared) (H : Hp) (scope : Scope) (ce : Env) (fp : List Addr) : Gd (X.blk s H scope ce fp) W0 k :=
  ⟨g.hr, g.gd, g.calm, g.nd, fun u s' ⟨a, B, sI, pins, σ, H, cls, d, e, I, nb, up, sky, na, os, ag, w⟩ => w.elim, PassesOwn.never⟩

/-! ## defs -/
inductive FR where
  | ok (v : SV) (S : Sto)
  | nw (o : Ob) (S : Sto)
  | exc (x : Exn) (S : Sto)
abbrev Fn := List SV → Sto → Option FR
def SpG (K : PySem.W.Frag) (mg : Str → Option Value) (g : Fn) : Sp := fun vs H Q E => ∃ (f : Ow) (S : Sto) (svs : List SV) (r : FR), StoR K f S H ∧ Paired (SvR K f H) vs svs ∧ g svs S = some r ∧
  match r with
  | .ok sv S' => ∀ (v : V) (H' : Hp), StoR K f S' H' → Kp f H H' → SvR K f H' v sv → Q v H'
  | .nw ob S' => ∀ (p : Addr) (H' : Hp), H p = none → StoR K (f.add [p]) (S' ++ [ob]) H' → Kp f H H' → Q (.ref p) H'
  | .exc x S' => ∀ (cls : Value) (d : Option Addr) (H' : Hp), StoR K f S' H' → Kp f H H' → ExR K f H' cls d x → E cls d H'
/-- the def x of the module does what g says, in k calls' room -/
structure FnG (P : Program) (w : World) (K : PySem.W.Frag) (mg : Str → Option Value) (base : Heap) (k : Nat) (x : Str) (g : Fn) : Prop where
  ex : ∃ f : Addr, mg x = some (.ref f) ∧ PySem.W.keepIn K (.ref f) = true ∧
    ∀ (A : Around) (outer : List Env) (s : Shared) (H : Hp) (us : List Value) (vs : List V) (Q : VK) (E : XK), Room k A → A.guards = some [] → Env0 P w K mg base A outer s H → Vals vs us → SpG K mg g vs H Q E →
      codeAny (model P w) A (.call (.ref f) ⟨us, []⟩) (CR (CX P w) outer P w H s Q E) s
theorem FnG.mono {P : Program} {w : World} {K : PySem.W.Frag} {mg : Str → Option Value} {base : Heap} {j k : Nat} {x : Str} {g : Fn} (F : FnG P w K mg base j x g) (h : j ≤ k) : FnG P w K mg base k x g :=
  let ⟨f, a, b, c⟩ := F.ex
  ⟨f, a, b, fun A outer s H us vs Q E hr => c A outer s H us vs Q E (hr.mono h)⟩
/-- less may be said -/
theorem FnG.less {P : Program} {w : World} {K : PySem.W.Frag} {mg : Str → Option Value} {base : Heap} {k : Nat} {x : Str} {g g' : Fn} (F : FnG P w K mg base k x g) (h : ∀ a S r, g' a S = some r → g a S = some r) : FnG P w K mg base k x g' :=
  let ⟨f, a, b, c⟩ := F.ex
  ⟨f, a, b, fun A outer s H us vs Q E hr hg e0 r ⟨fo, S, svs, q, s1, p, e, z⟩ => c A outer s H us vs Q E hr hg e0 r ⟨fo, S, svs, q, s1, p, h _ _ _ e, z⟩⟩

@[simp] def eCall (g : Fn) (as : Exs) (σ : Sg) (S : Sto) : Option (Res SV) := Res.bnd (as σ S) fun xs S1 => match g xs S1 with
  | some (.ok v S2) => some (.ok v S2)
  | some (.nw (.lst ds) S2) => some (.ok (.d (.list ds)) S2)
  | some (.exc x S2) => some (.exc x S2)
  | _ => none
@[simp] def nCall (g : Fn) (as : Exs) (σ : Sg) (S : Sto) : Option (Res Ob) := Res.bnd (as σ S) fun xs S1 => match g xs S1 with
  | some (.nw o S2) => some (.ok o S2)
  | some (.exc x S2) => some (.exc x S2)
  | _ => none
section
variable {X : Cx} {W : WX} {k : Nat} {x : Str} {g : Fn} {p0 pos : Pos} {a : Expr} {es : List Expr} {fs : Exs}
def tCallG (X : Cx) (W : WX) (sp : Sp) (t : TA) : TE := fun σ H Q => t σ H fun vs H1 => sp vs H1 Q (fun cls d H' => W cls d σ H')
theorem run_g {sp : Sp} {f : Addr} (G : Gd X W k)
    (run : ∀ (A : Around) (outer : List Env) (s : Shared) (H : Hp) (us : List Value) (vs : List V) (Q : VK) (E : XK), Room k A → A.guards = some [] → Env0 X.prog X.w X.K X.mg X.base A outer s H → Vals vs us → sp vs H Q E →
      codeAny (model X.prog X.w) A (.call (.ref f) ⟨us, []⟩) (CR (CX X.prog X.w) outer X.prog X.w H s Q E) s)
    {pins : List (Addr × Obj)} {σ : L2.St} {H : Hp} {s : Shared} {Q : VK} {us : List Value} {vs : List V} (I : Inv X pins σ H s) (r : Vals vs us) (h : sp vs H Q (fun cls d H' => W cls d σ H')) :
    wpAny (model X.prog X.w) X.A (call (.ref f) us) (EP X pins σ Q) X.xe s := by
  refine wpAny_call (codeAny_mono (run X.A X.stack s H us vs Q _ G.hr G.gd I.env0 r h) fun r s' hq => ?_)
  cases r with
  | error e => exact G.tk e s' (XE.of_call I (fun _ _ _ z => z) hq)
  | ok fl =>
    cases fl with
    | ret u => exact I.after hq
    | next => exact hq.elim
    | brk => exact hq.elim
    | cont => exact hq.elim
theorem pe_g {sp : Sp} {f : Addr} {t : TA} (G : Gd X W k)
    (run : ∀ (A : Around) (outer : List Env) (s : Shared) (H : Hp) (us : List Value) (vs : List V) (Q : VK) (E : XK), Room k A → A.guards = some [] → Env0 X.prog X.w X.K X.mg X.base A outer s H → Vals vs us → sp vs H Q E →
      codeAny (model X.prog X.w) A (.call (.ref f) ⟨us, []⟩) (CR (CX X.prog X.w) outer X.prog X.w H s Q E) s)
    (hg : Gl X x) (hm : X.mg x = some (.ref f)) (hk : PySem.W.keepIn X.K (.ref f) = true) (ha : PA X (a :: es) t) (hdb : (x == ("__debug__" : Str)) = false)
    (he : starEach (a :: es) X.env = (false, eval a X.env) :: starEach es X.env) (hpl : (backTo pos (starEach es X.env)).any (·.1) = false) : PE X (.Call (.Name x p0) (a :: es) [] pos) (tCallG X W sp t) := by
  refine ⟨fun pins s σ H Q I h => wpAny_Call_Name_kw (ld_glob I hg hm ?_ hdb)⟩
  exact PySem.W.callWith_K (h₀ := X.base) I.ok.mod.kin hk (thn (ha.run pos pins s σ H _ I h) fun us s1 ⟨vs, H1, I1, r, q⟩ => ⟨I1.kIn, run_g G run I1 r q⟩) he hpl
theorem pe_g0 {sp : Sp} {f : Addr} (G : Gd X W k)
    (run : ∀ (A : Around) (outer : List Env) (s : Shared) (H : Hp) (us : List Value) (vs : List V) (Q : VK) (E : XK), Room k A → A.guards = some [] → Env0 X.prog X.w X.K X.mg X.base A outer s H → Vals vs us → sp vs H Q E →
      codeAny (model X.prog X.w) A (.call (.ref f) ⟨us, []⟩) (CR (CX X.prog X.w) outer X.prog X.w H s Q E) s)
    (hg : Gl X x) (hm : X.mg x = some (.ref f)) (hk : PySem.W.keepIn X.K (.ref f) = true) (hdb : (x == ("__debug__" : Str)) = false) : PE X (.Call (.Name x p0) [] [] pos) (tCallG X W sp tNil) := by
  refine ⟨fun pins s σ H Q I h => wpAny_Call_Name_kw (ld_glob I hg hm ?_ hdb)⟩
  exact PySem.W.callWith_K0 I.kIn hk (run_g (us := []) G run I .nil h)
theorem call_go {σV : L2.St} {H : Hp} {Q : VK} (h : TX X W (eCall g fs) σV H Q) : tCallG X W (SpG X.K X.mg g) (TXs X W fs) σV H Q := by
  obtain ⟨f, σ, S, r, hE, hS, hr, hq⟩ := h
  refine TXs.first hE hS hr (exc_way hq) fun xs S1 vs H1 _ h1 s1 k1 e1 r1 => ?_
  cases hg : g xs S1 with
  | none => rw [hg] at h1; cases h1
  | some q =>
  rw [hg] at h1
  refine ⟨f, S1, xs, q, s1, r1, hg, ?_⟩
  cases q with
  | ok v S2 =>
    cases h1
    exact fun u H2 s2 k2 r2 => hq u H2 s2 (k1.trans k2) r2
  | nw o S2 =>
    cases o with
    | dct kvs => cases h1
    | tab t P => cases h1
    | lst ds =>
      cases h1
      intro p H2 np s2 k2
      have hp : f.nx p := s1.free np
      have cut := s2.cut
      have hl : f.o.length = S2.length := by
        have := s2.len
        simp [Ow.add] at this
        exact this
      rw [hl, List.take_append_of_le_length (Nat.le_refl _), List.take_length] at cut
      obtain ⟨vs2, e2, i2⟩ := s2.at_ S2.length (.lst ds) p (by simp) (by show (f.o ++ [p])[S2.length]? = some p; rw [← hl]; simp)
      exact hq _ H2 cut (k1.trans k2) (Is.lst ⟨e2, hp⟩ (i2.keep (Kq.refl _ _) Gr.sub))
  | exc y S2 =>
    cases h1
    exact fun cls d H2 s2 k2 r2 => hq cls d H2 s2 (k1.trans k2) r2
theorem ncall_go {σV : L2.St} {H : Hp} {Q : VK} (h : TN X W (nCall g fs) σV H Q) : tCallG X W (SpG X.K X.mg g) (TXs X W fs) σV H Q := by
  obtain ⟨f, σ, S, r, hE, hS, hr, hq⟩ := h
  refine TXs.first hE hS hr (fun x S' e => by subst e; exact hq) fun xs S1 vs H1 _ h1 s1 k1 e1 r1 => ?_
  cases hg : g xs S1 with
  | none => rw [hg] at h1; cases h1
  | some q =>
  rw [hg] at h1
  refine ⟨f, S1, xs, q, s1, r1, hg, ?_⟩
  cases q with
  | ok v S2 => cases h1
  | nw o S2 =>
    cases h1
    intro p H2 np s2 k2
    have nH : H p = none := by
      cases eH : H p with
      | none => rfl
      | some o =>
        have z := k1 p o (s1.free np).1 eH
        rw [np] at z; cases z
    exact hq p H2 nH s2 (k1.trans k2)
  | exc y S2 =>
    cases h1
    exact fun cls d H2 s2 k2 r2 => hq cls d H2 s2 (k1.trans k2) r2
theorem de_call (G : Gd X W k) (F : FnG X.prog X.w X.K X.mg X.base k x g) (ha : DA X W (a :: es) fs) (hg : Gl X x := by rfl) (hdb : (x == ("__debug__" : Str)) = false := by decide)
    (he : starEach (a :: es) X.env = (false, eval a X.env) :: starEach es X.env := by rfl) (hpl : (backTo pos (starEach es X.env)).any (·.1) = false := by rfl) : DE X W (.Call (.Name x p0) (a :: es) [] pos) (eCall g fs) := by
  obtain ⟨f, hm, hk, run⟩ := F.ex
  exact pe_imp (pe_g G run hg hm hk ha hdb he hpl) fun _ _ _ h => call_go h
theorem de_call0 (G : Gd X W k) (F : FnG X.prog X.w X.K X.mg X.base k x g) (hg : Gl X x := by rfl) (hdb : (x == ("__debug__" : Str)) = false := by decide) : DE X W (.Call (.Name x p0) [] [] pos) (eCall g esNil) := by
  obtain ⟨f, hm, hk, run⟩ := F.ex
  refine pe_imp (pe_g0 G run hg hm hk hdb) fun σV H Q h => ?_
  obtain ⟨f, σ, S, r, hE, hS, hr, hq⟩ := call_go (W := W) h
  cases hr
  exact hq [] H hS (Kp.refl _ _) .nil
theorem dn_call (G : Gd X W k) (F : FnG X.prog X.w X.K X.mg X.base k x g) (ha : DA X W (a :: es) fs) (hg : Gl X x := by rfl) (hdb : (x == ("__debug__" : Str)) = false := by decide)
    (he : starEach (a :: es) X.env = (false, eval a X.env) :: starEach es X.env := by rfl) (hpl : (backTo pos (starEach es X.env)).any (·.1) = false := by rfl) : DN X W (.Call (.Name x p0) (a :: es) [] pos) (nCall g fs) := by
  obtain ⟨f, hm, hk, run⟩ := F.ex
  exact pe_imp (pe_g G run hg hm hk ha hdb he hpl) fun _ _ _ h => ncall_go h
end

/-- a def by its body; n: how many names beside the parameters -/
@[simp] def fnRun (n : Nat) (m : Sm) (args : List SV) (S : Sto) : Option FR := match m (args.map some ++ List.replicate n none) S with
  | some (.nx _ S') => some (.ok (.d .none) (S'.take S.length))
  | some (.rt (.d x) S') => some (.ok (.d x) (S'.take S.length))
  | some (.rt (.r i) S') => if i < S.length then some (.ok (.r i) (S'.take S.length)) else (S'[i]?).map fun o => .nw o (S'.take S.length)
  | some (.exc x S') => some (.exc x (S'.take S.length))
  | _ => none
theorem pkeep {K : PySem.W.Frag} {f : Ow} {H H' : Hp} {vs : List V} {svs : List SV} (h : Paired (SvR K f H) vs svs) (k : Kp f H H') : Paired (SvR K f H') vs svs := Paired.mapP h fun _ _ r => r.kp k
theorem papp {α β : Type} {R : α → β → Prop} : ∀ {a b : List α} {c d : List β}, Paired R a c → Paired R b d → Paired R (a ++ b) (c ++ d)
  | _, _, _, _, .nil, s => s
  | _, _, _, _, .cons r t, s => .cons r (papp t s)
theorem start_env {K : PySem.W.Frag} {f : Ow} {H : Hp} {N : List Str} {n : Nat} {vs : List V} {svs : List SV} (h : Paired (SvR K f H) vs svs) (hn : N.length - vs.length = n) : EnvR K f H (L2.start N vs) (svs.map some ++ List.replicate n none) := by
  have hl := Paired.length h
  refine ⟨by simp [L2.start, hl, ← hn], fun i x e => ?_⟩
  by_cases hi : i < svs.length
  · rw [List.getElem?_append_left (by simpa using hi), List.getElem?_map, List.getElem?_eq_getElem hi] at e
    cases e
    have : ∀ {vs : List V} {svs : List SV} {i : Nat} (hi : i < svs.length), Paired (SvR K f H) vs svs → ∃ v, vs[i]? = some v ∧ SvR K f H v svs[i] := by
      intro vs svs
      induction svs generalizing vs with
      | nil => intro i hi; cases hi
      | cons y ys ih =>
        intro i hi p
        cases p with
        | cons p q =>
          cases i with
          | zero => exact ⟨_, rfl, p⟩
          | succ i =>
            obtain ⟨v, e1, r1⟩ := ih (i := i) (by simpa using hi) q
            exact ⟨v, by simpa using e1, r1⟩
    obtain ⟨v, e1, r1⟩ := this hi h
    refine ⟨v, ?_, r1⟩
    unfold L2.start
    rw [List.getElem?_append_left (by simpa [hl] using hi), List.getElem?_map, e1]
    rfl
  · rw [List.getElem?_append_right (by simpa using hi), List.getElem?_replicate] at e
    split at e <;> cases e
section
variable {P : Program} {w : World} {K : PySem.W.Frag} {mg : Str → Option Value} {base : Heap} {k n : Nat} {x : Str} {st : Stmt} {f : Addr} {fd : FuncData} {N ps : List Str} {m : Sm}
/-- the context of a def's body -/
abbrev Xo (P : Program) (w : World) (K : PySem.W.Frag) (mg : Str → Option Value) (base : Heap) (N : List Str) (qual : Str) (st : Stmt) (f : Addr) (cdv : Value) (A : Around) (outer : List Env) (s : Shared) (H : Hp) (E : XK) : Cx :=
  cxOf (CX P w) P w K mg base N qual (defScope st) f cdv A outer s H E
abbrev Wo (E : XK) : WX := fun cls d _ H => E cls d H
theorem body_end {X : Cx} {W : WX} {fo : Ow} {S : Sto} {svs : List SV} {H : Hp} {Q : VK} {E : XK} {r : FR} {q : Flow} (hW : ∀ cls d σ H, E cls d H → W cls d σ H) (hS : StoR X.K fo S H)
    (hr : (match some q with
      | some (.nx _ S') => some (FR.ok (.d .none) (S'.take S.length))
      | some (.rt (.d x) S') => some (.ok (.d x) (S'.take S.length))
      | some (.rt (.r i) S') => if i < S.length then some (.ok (.r i) (S'.take S.length)) else (S'[i]?).map fun o => .nw o (S'.take S.length)
      | some (.exc x S') => some (.exc x (S'.take S.length))
      | _ => none) = some r)
    (hq : match (generalizing := false) r with
      | .ok sv S' => ∀ (v : V) (H' : Hp), StoR X.K fo S' H' → Kp fo H H' → SvR X.K fo H' v sv → Q v H'
      | .nw ob S' => ∀ (p : Addr) (H' : Hp), H p = none → StoR X.K (fo.add [p]) (S' ++ [ob]) H' → Kp fo H H' → Q (.ref p) H'
      | .exc x S' => ∀ (cls : Value) (d : Option Addr) (H' : Hp), StoR X.K fo S' H' → Kp fo H H' → ExR X.K fo H' cls d x → E cls d H') :
    Fl X W fo H { nx := fun _ H' => Q .non H', rt := Q } q := by
  cases q with
  | nx σ' S' =>
    cases hr
    intro ex σV H' n1 s1 k1 _
    have c := s1.cut
    rw [hS.len] at c
    exact hq .non H' c k1 Is.non
  | rt v S' =>
    cases v with
    | d y =>
      cases hr
      intro ex u H' n1 s1 k1 r1
      have c := s1.cut
      rw [hS.len] at c
      exact hq u H' c k1 (Is.keep (Kq.refl _ _) Gr.sub r1)
    | s ns => cases hr
    | k a x c d => cases hr
    | t a1 a2 a3 a4 a5 => cases hr
    | r i =>
      intro ex u H' n1 s1 k1 r1
      obtain ⟨a, ea, rfl⟩ := r1
      have c := s1.cut
      rw [hS.len] at c
      dsimp only at hr
      split at hr
      · rename_i hi
        cases hr
        have ea : (fo.o ++ ex)[i]? = some a := ea
        rw [List.getElem?_append_left (by rw [hS.len]; exact hi)] at ea
        exact hq _ H' c k1 ⟨a, ea, rfl⟩
      · rename_i hi
        cases eo : S'[i]? with
        | none => rw [eo] at hr; cases hr
        | some o =>
        rw [eo] at hr
        cases hr
        have ea : (fo.o ++ ex)[i]? = some a := ea
        have q1 := s1.cut1 eo ea (by rw [hS.len]; omega)
        rw [hS.len] at q1
        refine hq a H' (n1 a ?_) q1 k1
        rw [List.getElem?_append_right (by rw [hS.len]; omega)] at ea
        exact List.mem_of_getElem? ea
  | bk σ' S' => cases hr
  | ct σ' S' => cases hr
  | exc y S' =>
    cases hr
    intro ex cls d σV H' n1 s1 k1 r1
    have c := s1.cut
    rw [hS.len] at c
    exact hW _ _ _ _ (hq cls d H' c k1 (r1.keep (Kq.refl _ _) Gr.sub))
theorem fn_def0 {qual : Str} (F : Fun K x qual st f fd) (hm : mg x = some (.ref f)) (sc : FnScope N ps (defScope st)) (hn : N.length - ps.length = n)
    (bd : ∀ (kV doc pm : Value) (an : Option Addr) (cdv ct : Value) (us : List Value), us.length = ps.length → bindArgs (PySem.W.fnOf x qual (defArgs st) (defBody st) (defScope st) .none kV doc pm an cdv ct) ⟨us, []⟩ = pure (ps.zip us))
    (hb : ∀ (cdv : Value), fd.code = cdv → ∀ (A : Around) (outer : List Env) (s : Shared) (H : Hp) (E : XK), Gd (Xo P w K mg base N qual st f cdv A outer s H E) (Wo E) k → DB (Xo P w K mg base N qual st f cdv A outer s H E) (Wo E) (defBody st) m) :
    FnG P w K mg base (k + 1) x (fun args S => if args.length = ps.length then fnRun n m args S else none) := by
  obtain ⟨oc, od, kV, doc, pm, an, cdv, ct, osl, rfl, lk, hcd⟩ := F.ex
  refine ⟨f, hm, F.kp, fun A outer s H us vs Q E hr hg e0 rv ⟨fo, S, svs, r, hS, hp, hgr, hq⟩ => ?_⟩
  have hgr : (if svs.length = ps.length then fnRun n m svs S else none) = some r := hgr
  split at hgr
  · rename_i hl
    have hl2 : vs.length = ps.length := (Paired.length hp).trans hl
    have hl3 : us.length = ps.length := rv.length.symm.trans hl2
    refine StX.run_bnd (CX := CX P w) (G := fun vs' H2 => vs' = vs ∧ H2 = H) lk hcd sc hr e0 (fun A' Ex Q' h => ?_) fun s2 H2 vs' ⟨e1, e2⟩ hr2 => ?_
    · rw [bd kV doc pm an cdv ct us hl3]
      exact wpAny_pure (h s H vs us e0 Un.refl rfl (fun _ _ z => z) rv hl2 ⟨rfl, rfl⟩)
    · subst e1 e2
      have G : Gd (Xo P w K mg base N qual st f cdv A outer s2 H2 E) (Wo E) k := ⟨hr2, hg, rfl, sc.nd, takes_of rfl rfl rfl rfl, passes_of rfl⟩
      refine ⟨_, hb cdv rfl A outer s2 H2 E G, ?_⟩
      unfold fnRun at hgr
      cases hmm : m (svs.map some ++ List.replicate n none) S with
      | none => rw [hmm] at hgr; cases hgr
      | some q =>
        rw [hmm] at hgr
        exact ⟨fo, _, S, q, start_env hp (by rw [hl2]; exact hn), hS, hmm, body_end (X := Xo P w K mg base N qual st f cdv A outer s2 H2 E) (svs := svs) (fun _ _ _ _ z => z) hS hgr hq⟩
  · cases hgr
theorem fn_def {qual : Str} (F : Fun K x qual st f fd) (hm : mg x = some (.ref f)) (sc : FnScope N ps (defScope st)) (hn : N.length - ps.length = n)
    (bd : ∀ (kV doc pm : Value) (an : Option Addr) (cdv ct : Value) (us : List Value), us.length = ps.length → bindArgs (PySem.W.fnOf x qual (defArgs st) (defBody st) (defScope st) .none kV doc pm an cdv ct) ⟨us, []⟩ = pure (ps.zip us))
    (hb : ∀ (cdv : Value) (A : Around) (outer : List Env) (s : Shared) (H : Hp) (E : XK), Gd (Xo P w K mg base N qual st f cdv A outer s H E) (Wo E) k → DB (Xo P w K mg base N qual st f cdv A outer s H E) (Wo E) (defBody st) m) :
    FnG P w K mg base (k + 1) x (fun args S => if args.length = ps.length then fnRun n m args S else none) := fn_def0 F hm sc hn bd fun cdv _ => hb cdv
/-- a def whose code object is told -/
theorem fn_defC {qual : Str} {cd : Value} (F : Fun K x qual st f fd) (hm : mg x = some (.ref f)) (hc : fd.code = cd) (sc : FnScope N ps (defScope st)) (hn : N.length - ps.length = n)
    (bd : ∀ (kV doc pm : Value) (an : Option Addr) (cdv ct : Value) (us : List Value), us.length = ps.length → bindArgs (PySem.W.fnOf x qual (defArgs st) (defBody st) (defScope st) .none kV doc pm an cdv ct) ⟨us, []⟩ = pure (ps.zip us))
    (hb : ∀ (A : Around) (outer : List Env) (s : Shared) (H : Hp) (E : XK), Gd (Xo P w K mg base N qual st f cd A outer s H E) (Wo E) k → DB (Xo P w K mg base N qual st f cd A outer s H E) (Wo E) (defBody st) m) :
    FnG P w K mg base (k + 1) x (fun args S => if args.length = ps.length then fnRun n m args S else none) := fn_def0 F hm sc hn bd fun cdv e => by
  cases hc.symm.trans e
  exact hb
/-- the def that is never called -/
theorem fn_none {qual : Str} {j : Nat} (F : Fun K x qual st f fd) (hm : mg x = some (.ref f)) : FnG P w K mg base j x (fun _ _ => none) :=
  ⟨f, hm, F.kp, fun A outer s H us vs Q E hr hg e0 rv ⟨fo, S, svs, r, hS, hp, hgr, hq⟩ => nomatch hgr⟩
/-- def x(a, .., *v) -/
theorem fn_star {qual pv : Str} (F : Fun K x qual st f fd) (hm : mg x = some (.ref f)) (sc : FnScope N (ps ++ [pv]) (defScope st)) (hn : N.length - (ps.length + 1) = n)
    (bd : ∀ (kV doc pm : Value) (an : Option Addr) (cdv ct : Value) (us rest : List Value), us.length = ps.length → bindArgs (PySem.W.fnOf x qual (defArgs st) (defBody st) (defScope st) .none kV doc pm an cdv ct) ⟨us ++ rest, []⟩ = (newTuple rest >>= fun t => pure (ps.zip us ++ [(pv, t)])))
    (hb : ∀ (cdv : Value) (A : Around) (outer : List Env) (s : Shared) (H : Hp) (E : XK), Gd (Xo P w K mg base N qual st f cdv A outer s H E) (Wo E) k → DB (Xo P w K mg base N qual st f cdv A outer s H E) (Wo E) (defBody st) m) :
    FnG P w K mg base (k + 1) x (fun args S => if ps.length ≤ args.length then (dats (args.drop ps.length)).bind fun ds => if ds.length ≤ sizeLine then fnRun n m (args.take ps.length ++ [.d (.tuple ds)]) S else none else none) := by
  obtain ⟨oc, od, kV, doc, pm, an, cdv, ct, osl, rfl, lk, hcd⟩ := F.ex
  refine ⟨f, hm, F.kp, fun A outer s H us vs Q E hr hg e0 rv ⟨fo, S, svs, r, hS, hp, hgr, hq⟩ => ?_⟩
  have hgr : (if ps.length ≤ svs.length then (dats (svs.drop ps.length)).bind fun ds => if ds.length ≤ sizeLine then fnRun n m (svs.take ps.length ++ [.d (.tuple ds)]) S else none else none) = some r := hgr
  split at hgr
  · rename_i hl
    cases ed : dats (svs.drop ps.length) with
    | none => rw [ed] at hgr; cases hgr
    | some ds =>
    rw [ed] at hgr
    dsimp only [Option.bind_some] at hgr
    split at hgr
    · rename_i hz
      have hpd : ∀ {vs : List V} {svs : List SV} (i : Nat), Paired (SvR K fo H) vs svs → Paired (SvR K fo H) (vs.drop i) (svs.drop i) ∧ Paired (SvR K fo H) (vs.take i) (svs.take i) := by
        intro vs svs i p
        induction p generalizing i with
        | nil => rw [List.drop_nil, List.take_nil, List.drop_nil, List.take_nil]; exact ⟨.nil, .nil⟩
        | cons a b ih =>
          cases i with
          | zero => exact ⟨.cons a b, .nil⟩
          | succ i => exact ⟨(ih i).1, .cons a (ih i).2⟩
      obtain ⟨hp1, hp2⟩ := hpd ps.length hp
      have hrest := dats_is ed hp1
      have hvl : vs.length = svs.length := Paired.length hp
      have hul : us.length = svs.length := rv.length.symm.trans hvl
      have rv1 : Vals (vs.take ps.length) (us.take ps.length) := rv.take _
      have rv2 : Vals (vs.drop ps.length) (us.drop ps.length) := rv.drop _
      have hul1 : (us.take ps.length).length = ps.length := by rw [List.length_take]; omega
      have hvl1 : (vs.take ps.length).length = ps.length := by rw [List.length_take]; omega
      have hz2 : (us.drop ps.length).length ≤ sizeLine := by rw [← rv2.length, hrest.len]; exact hz
      have hfree : H s.heap.objs.size = none := e0.hok.fresh (Nat.le_refl _)
      refine StX.run_bnd (CX := CX P w) (G := fun vs' H2 => ∃ p, H p = none ∧ vs' = vs.take ps.length ++ [V.ref p] ∧ H2 = upd H p (.tup (vs.drop ps.length))) lk hcd sc hr e0 (fun A' Ex Q' h => ?_) fun s2 H2 vs' ⟨p, np, e1, e2⟩ hr2 => ?_
      · rw [← List.take_append_drop ps.length us, bd kV doc pm an cdv ct _ _ hul1]
        refine wpAny_bind (wpAny_newTuple (wpAny_pure ?_) hz2)
        have new : ObjOk P w (upd H s.heap.objs.size (.tup (vs.drop ps.length))) (s.heap.push ({ cls := .type "tuple", data := .seq (us.drop ps.length).toArray } : Obj)) s.heap.objs.size (.tup (vs.drop ps.length)) :=
          ⟨by rw [rv2.length]; exact hz2, _, rv2, ⟨_, Heap.get?_push_size _ rfl, rfl, _, rfl⟩⟩
        have un := StX.un_laid (fs := frs outer) (s := s) (o := ({ cls := .type "tuple", data := .seq (us.drop ps.length).toArray } : Obj)) (u := .tup (vs.drop ps.length)) hfree
        have q := h _ _ (vs.take ps.length ++ [V.ref s.heap.objs.size]) (us.take ps.length ++ [Value.ref s.heap.objs.size]) (StX.env0_laid e0 new) un rfl (fun e s' => StX.cxUp outer s H _ _ E e s' un (fun b o q => Heap.get?_push_of_some _ q) rfl)
          (rv1.append (.cons rfl .nil)) (by simp; omega) ⟨_, hfree, rfl, rfl⟩
        rw [List.zip_append hul1.symm] at q
        exact q
      · subst e1 e2
        have G : Gd (Xo P w K mg base N qual st f cdv A outer s2 (upd H p (.tup (vs.drop ps.length))) E) (Wo E) k := ⟨hr2, hg, rfl, sc.nd, takes_of rfl rfl rfl rfl, passes_of rfl⟩
        refine ⟨_, hb cdv A outer s2 _ E G, ?_⟩
        unfold fnRun at hgr
        cases hmm : m ((svs.take ps.length ++ [SV.d (.tuple ds)]).map some ++ List.replicate n none) S with
        | none => rw [hmm] at hgr; cases hgr
        | some q =>
          rw [hmm] at hgr
          have hS2 := hS.laid (o := .tup (vs.drop ps.length)) np
          have kp : Kp fo H (upd H p (.tup (vs.drop ps.length))) := Kp.new np
          have pr : Paired (SvR K fo (upd H p (.tup (vs.drop ps.length)))) (vs.take ps.length ++ [V.ref p]) (svs.take ps.length ++ [SV.d (.tuple ds)]) :=
            papp (pkeep hp2 kp) (.cons (Is.tup (.inl ⟨.inl upd_same, hS.free np⟩) (hrest.keep kp.q (Gr.refl _ _))) .nil)
          refine ⟨fo, _, S, q, start_env pr (by simp; omega), hS2, hmm, ?_⟩
          refine body_end (X := Xo P w K mg base N qual st f cdv A outer s2 (upd H p (.tup (vs.drop ps.length))) E) (svs := svs) (r := r) (Q := Q) (fun _ _ _ _ z => z) hS2 hgr ?_
          cases r with
          | ok sv S' => exact fun v H' s' k' r' => hq v H' s' (kp.trans k') r'
          | nw ob S' =>
            intro p' H' np' s' k'
            refine hq p' H' ?_ s' (kp.trans k')
            cases eH : H p' with
            | none => rfl
            | some o =>
              have z := kp p' o (hS2.free np').1 eH
              rw [np'] at z; cases z
          | exc y S' => exact fun cls d H' s' k' r' => hq cls d H' s' (kp.trans k') r'
    · cases hgr
  · cases hgr
end
end Z
set_option maxRecDepth 100000
set_option maxHeartbeats 1000000
namespace Z
open PySem PySem.Spec PyProof.Rows L2

/-! ## data as it is read, dicts too -/
section
variable {X : Cx} {pins : List (Addr × Obj)} {σ : L2.St} {H : Hp} {s : Shared} {f : Ow}
theorem key_reads {P : Program} {w : World} {h : Heap} {k : Key} {v : Value} (e : (mixKind P w).is k v = true) : ∃ as, Reads h v (kd k) as ∧ sysModules ∉ as := by
  rcases keyIs_shape e with ⟨i, t, rfl, rfl⟩ | ⟨x, t, rfl, rfl⟩
  · exact ⟨_, Reads.int i t, fun z => nomatch z⟩
  · exact ⟨_, Reads.str x t, fun z => nomatch z⟩
mutual
theorem Is.reads (I : Inv X pins σ H s) : ∀ (d : PyData) (v : V) (u : Value), Is X.K f H v d → RelV v u → ∃ as, Reads s.heap u d as ∧ sysModules ∉ as
  | .none, _, _, h, r => by
    cases h
    cases r
    exact ⟨_, Reads.none, fun z => nomatch z⟩
  | .bool b, _, _, h, r => by
    cases h
    cases r
    exact ⟨_, Reads.bool b, fun z => nomatch z⟩
  | .int i, _, _, h, r => by
    cases h
    obtain ⟨t, rfl⟩ := r
    exact ⟨_, Reads.int i t, fun z => nomatch z⟩
  | .str x, _, _, h, r => by
    cases h
    obtain ⟨t, rfl⟩ := r
    exact ⟨_, Reads.str x t, fun z => nomatch z⟩
  | .list ds, _, _, h, r => by
    cases h with
    | lst hs ha =>
      cases r
      obtain ⟨its, rv, ⟨o, n, ho, hc, _, hd⟩, _⟩ := I.list hs.sq
      obtain ⟨as, hr, hn⟩ := Is.readsAll I ds _ its ha rv
      exact ⟨_, Reads.list ho hc hd hr, fun m => (List.mem_cons.mp m).elim (fun e => hs.2.2.2 e.symm) hn⟩
  | .tuple ds, _, _, h, r => by
    cases h with
    | tup hs ha =>
      cases r
      obtain ⟨its, rv, ⟨o, ho, hc, n, hd⟩, _⟩ := I.tuple hs.sq
      obtain ⟨as, hr, hn⟩ := Is.readsAll I ds _ its ha rv
      exact ⟨_, Reads.tuple ho hc hd hr, hn⟩
  | .dict ds, _, _, h, r => by
    cases h with
    | dic hr hn hk =>
      cases r
      obtain ⟨_, hsys, vs, kv, o, es, ep, ho, hx, hd, _, hp, _⟩ := dk_rd I.hok hr
      obtain ⟨as, bs, r1, r2, n1, n2⟩ := Is.readsKv I ds _ vs es.toList hk kv hp
      refine ⟨_, Reads.dict ho hx.1 hd r1 r2, fun m => ?_⟩
      rcases List.mem_append.mp m with m | m
      · rcases List.mem_cons.mp m with m | m
        · rw [m] at hsys
          simp at hsys
        · exact n1 m
      · exact n2 m
theorem Is.readsAll (I : Inv X pins σ H s) : ∀ (ds : List PyData) (vs : List V) (us : List Value), IsAll X.K f H vs ds → Vals vs us → ∃ as, ReadsAll s.heap us ds as ∧ sysModules ∉ as
  | [], _, _, h, r => by
    cases h
    cases r
    exact ⟨_, ReadsAll.nil, fun z => nomatch z⟩
  | d :: ds, _, _, h, r => by
    cases h with
    | cons h1 h2 =>
      cases r with
      | cons r1 r2 =>
        obtain ⟨as, q1, n1⟩ := Is.reads I d _ _ h1 r1
        obtain ⟨bs, q2, n2⟩ := Is.readsAll I ds _ _ h2 r2
        exact ⟨_, ReadsAll.cons q1 q2, fun m => (List.mem_append.mp m).elim n1 n2⟩
theorem Is.readsKv (I : Inv X pins σ H s) : ∀ (ds : List (PyData × PyData)) (kvs : List (Key × V)) (vs : List (Key × Value)) (es : List DictEntry), IsKv X.K f H kvs ds → KV kvs vs → Pairs (mixKind X.prog X.w) es vs →
    ∃ as bs, ReadsAll s.heap (es.map (·.key)) (ds.map (·.1)) as ∧ ReadsAll s.heap (es.map (·.val)) (ds.map (·.2)) bs ∧ sysModules ∉ as ∧ sysModules ∉ bs
  | [], _, _, _, h, r, p => by
    cases h
    cases r
    cases p
    exact ⟨_, _, ReadsAll.nil, ReadsAll.nil, (fun z => nomatch z), fun z => nomatch z⟩
  | (k, d) :: ds, _, _, _, h, r, p => by
    cases h with
    | cons h1 h2 =>
      cases r with
      | cons r1 r2 =>
        cases p with
        | cons p1 p2 p3 =>
          obtain ⟨e1, e2⟩ := r1
          obtain ⟨a1, q1, n1⟩ := key_reads (h := s.heap) p1
          rw [← e1] at q1
          rw [← p2] at e2
          obtain ⟨a2, q2, n2⟩ := Is.reads I d _ _ h1 e2
          obtain ⟨as, bs, q3, q4, n3, n4⟩ := Is.readsKv I ds _ _ _ h2 r2 p3
          exact ⟨_, _, ReadsAll.cons q1 q3, ReadsAll.cons q2 q4, (fun m => (List.mem_append.mp m).elim n1 n3), fun m => (List.mem_append.mp m).elim n2 n4⟩
end
end
/-- a value reads as data -/
def Rs (X : Cx) (H : Hp) (v : V) (d : PyData) : Prop := ∀ (pins : List (Addr × Obj)) (σ : L2.St) (s : Shared) (u : Value), Inv X pins σ H s → RelV v u → ∃ as, Reads s.heap u d as ∧ (d.hasDict = true → sysModules ∉ as)
/-- == that is told: no dict within; or against an empty list, an empty tuple -/
def empD : PyData → PyData → Bool
  | .tuple _, .tuple [] => true
  | .list _, .list [] => true
  | _, _ => false
def okE (d e : PyData) : Prop := (SeqAt.shaped d = true ∧ SeqAt.shaped e = true) ∨ empD d e = true
def rEqR (X : Cx) : R2 := fun x y H Q => ∃ d e, Rs X H x d ∧ Rs X H y e ∧ okE d e ∧ Q (.bl (PyData.eqv d e)) H
def rNeR (X : Cx) : R2 := fun x y H Q => ∃ d e, Rs X H x d ∧ Rs X H y e ∧ okE d e ∧ Q (.bl (!PyData.eqv d e)) H
theorem eqv_emp (ds : List PyData) : PyData.eqvAll ds [] = ds.isEmpty := by
  cases ds <;> simp [PyData.eqvAll]
section
variable {X : Cx}
theorem op_eqR (hu : X.A.units + 64 < cLine) : OpR X (compareOp .Eq) (rEqR X) := by
  intro pins s σ H x y v u Q I rx ry ⟨d, e, h1, h2, ok, q⟩
  obtain ⟨as, r1, -⟩ := h1 pins σ s _ I rx
  obtain ⟨bs, r2, -⟩ := h2 pins σ s _ I ry
  have fin : EP X pins σ Q (.bool (PyData.eqv d e)) s := ⟨.bl _, H, I, rfl, q⟩
  rcases ok with ⟨sd, se⟩ | ok
  · exact SeqAt.compareEq_shaped r1 r2 sd se hu fin
  · unfold empD at ok
    split at ok
    · rename_i ds
      cases r1 with
      | @tuple a o vs n xs as a1 a2 a3 a4 =>
      cases r2 with
      | @tuple a' o' vs' n' xs' as' b1 b2 b3 b4 =>
      have hv : vs' = #[] := by
        have : vs'.toList = [] := by cases h : vs'.toList with
          | nil => rfl
          | cons c l => rw [h] at b4; cases b4
        simpa using this
      subst hv
      have q2 := SeqAt.RcAt.tuples (A := X.A) (s := s) (e := fun _ => true) (l := a) (b := a') (items := vs) (items2 := #[]) ⟨o, a1, a2, n, a3⟩ ⟨o', b1, b2, n', b3⟩ (by omega) (fun j _ hj => absurd hj (by simp))
      refine q2 X.prog X.w _ _ ?_
      have ev : PyData.eqv (.tuple ds) (.tuple []) = (vs.size == 0) := by
        simp only [PyData.eqv, eqv_emp]
        cases hl : vs.toList with
        | nil => rw [hl] at a4; cases a4; have : vs = #[] := by simpa using hl
                 subst this; rfl
        | cons c l =>
          have hz : vs.size ≠ 0 := by
            rw [← Array.length_toList, hl]; simp
          rw [hl] at a4
          cases a4
          simp [hz]
      rw [ev] at fin
      simpa using fin
    · rename_i ds
      cases r1 with
      | @list a o vs n xs as a1 a2 a3 a4 =>
      cases r2 with
      | @list a' o' vs' n' xs' as' b1 b2 b3 b4 =>
      have hv : vs' = #[] := by
        have : vs'.toList = [] := by cases h : vs'.toList with
          | nil => rfl
          | cons c l => rw [h] at b4; cases b4
        simpa using this
      subst hv
      cases hl : vs.toList with
      | nil =>
        have : vs = #[] := by simpa using hl
        subst this
        cases a4
        have q2 := SeqAt.RcAt.lists (A := X.A) (s := s) (e := fun _ => true) (l := a) (b := a') (items := #[]) (items2 := #[]) ⟨o, a1, a2, n, a3⟩ ⟨o', b1, b2, n', b3⟩ rfl (by omega) (fun j _ hj => absurd hj (by simp))
        refine q2 X.prog X.w _ _ ?_
        have ev : PyData.eqv (.list []) (.list []) = true := by simp [PyData.eqv, PyData.eqvAll]
        rw [ev] at fin
        simpa using fin
      | cons c l =>
        have hz : (vs.size != (#[] : Array Value).size) = true := by
          have : vs.size ≠ 0 := by rw [← Array.length_toList, hl]; simp
          simpa using this
        have q2 := SeqAt.RcAt.lists_lengths (A := X.A) (s := s) (l := a) (b := a') (items := vs) (items2 := #[]) ⟨o, a1, a2, n, a3⟩ ⟨o', b1, b2, n', b3⟩ hz (by omega)
        refine q2 X.prog X.w _ _ ?_
        rw [hl] at a4
        cases a4
        have ev : ∀ (z : PyData) (zs : List PyData), PyData.eqv (.list (z :: zs)) (.list []) = false := fun z zs => by simp [PyData.eqv, PyData.eqvAll]
        rw [ev] at fin
        exact fin
    · cases ok
theorem op_neR (hu : X.A.units + 64 < cLine) : OpR X (compareOp .NotEq) (rNeR X) := by
  intro pins s σ H x y v u Q I rx ry ⟨d, e, h1, h2, ok, q⟩
  obtain ⟨as, r1, -⟩ := h1 pins σ s _ I rx
  obtain ⟨bs, r2, -⟩ := h2 pins σ s _ I ry
  have fin : EP X pins σ Q (.bool (!PyData.eqv d e)) s := ⟨.bl _, H, I, rfl, q⟩
  rcases ok with ⟨sd, se⟩ | ok
  · exact SeqAt.compareNe_shaped r1 r2 sd se hu fin
  · unfold empD at ok
    split at ok
    · rename_i ds
      cases r1 with
      | @tuple a o vs n xs as a1 a2 a3 a4 =>
      cases r2 with
      | @tuple a' o' vs' n' xs' as' b1 b2 b3 b4 =>
      have hv : vs' = #[] := by
        have : vs'.toList = [] := by cases h : vs'.toList with
          | nil => rfl
          | cons c l => rw [h] at b4; cases b4
        simpa using this
      subst hv
      have q2 := SeqAt.RcNeAt.tuples (A := X.A) (s := s) (e := fun _ => true) (l := a) (b := a') (items := vs) (items2 := #[]) ⟨o, a1, a2, n, a3⟩ ⟨o', b1, b2, n', b3⟩ (by omega) (fun j _ hj => absurd hj (by simp))
      refine q2 X.prog X.w _ _ ?_
      have ev : PyData.eqv (.tuple ds) (.tuple []) = (vs.size == 0) := by
        simp only [PyData.eqv, eqv_emp]
        cases hl : vs.toList with
        | nil => rw [hl] at a4; cases a4; have : vs = #[] := by simpa using hl
                 subst this; rfl
        | cons c l =>
          have hz : vs.size ≠ 0 := by
            rw [← Array.length_toList, hl]; simp
          rw [hl] at a4
          cases a4
          simp [hz]
      rw [ev] at fin
      simpa using fin
    · rename_i ds
      cases r1 with
      | @list a o vs n xs as a1 a2 a3 a4 =>
      cases r2 with
      | @list a' o' vs' n' xs' as' b1 b2 b3 b4 =>
      have hv : vs' = #[] := by
        have : vs'.toList = [] := by cases h : vs'.toList with
          | nil => rfl
          | cons c l => rw [h] at b4; cases b4
        simpa using this
      subst hv
      cases hl : vs.toList with
      | nil =>
        have : vs = #[] := by simpa using hl
        subst this
        cases a4
        have q2 := SeqAt.RcNeAt.lists (A := X.A) (s := s) (e := fun _ => true) (l := a) (b := a') (items := #[]) (items2 := #[]) ⟨o, a1, a2, n, a3⟩ ⟨o', b1, b2, n', b3⟩ rfl (by omega) (fun j _ hj => absurd hj (by simp))
        refine q2 X.prog X.w _ _ ?_
        have ev : PyData.eqv (.list []) (.list []) = true := by simp [PyData.eqv, PyData.eqvAll]
        rw [ev] at fin
        simpa using fin
      | cons c l =>
        have hz : (vs.size != (#[] : Array Value).size) = true := by
          have : vs.size ≠ 0 := by rw [← Array.length_toList, hl]; simp
          simpa using this
        have q2 := SeqAt.RcNeAt.lists_lengths (A := X.A) (s := s) (l := a) (b := a') (items := vs) (items2 := #[]) ⟨o, a1, a2, n, a3⟩ ⟨o', b1, b2, n', b3⟩ hz (by omega)
        refine q2 X.prog X.w _ _ ?_
        rw [hl] at a4
        cases a4
        have ev : ∀ (z : PyData) (zs : List PyData), PyData.eqv (.list (z :: zs)) (.list []) = false := fun z zs => by simp [PyData.eqv, PyData.eqvAll]
        rw [ev] at fin
        exact fin
    · cases ok
end
end Z
set_option maxRecDepth 100000
namespace Z
open PySem PySem.Spec PyProof.Rows L2

/-! ## operators on ints -/
@[simp] def iop (g : Int → Int → Option Int) : SV → SV → Sto → Option SV
  | .d (.int i), .d (.int j), _ => (g i j).map fun k => .d (.int k)
  | _, _, _ => none
@[simp] def irel (g : Int → Int → Bool) : SV → SV → Sto → Option SV
  | .d (.int i), .d (.int j), _ => some (.d (.bool (g i j)))
  | _, _, _ => none
section
variable {X : Cx}
theorem opk_int {C : Int → Int → Prop} {h : Int → Int → Int} {g : Int → Int → Option Int} (hg : ∀ i j k, g i j = some k → C i j ∧ k = h i j) : OpK X (rI C fun i j => .int (h i j)) (iop g) := by
  intro f S H vx vy x y z Q hS rx ry hp hq
  unfold iop at hp
  split at hp
  · rename_i i j
    cases e : g i j with
    | none => rw [e] at hp; cases hp
    | some k =>
      rw [e] at hp
      cases hp
      cases rx
      cases ry
      obtain ⟨hc, rfl⟩ := hg i j k e
      exact ⟨i, j, rfl, rfl, hc, hq _ H hS (Kp.refl _ _) (Is.int _)⟩
  · cases hp
theorem opk_int0 {h : Int → Int → Int} : OpK X (rI0 fun i j => .int (h i j)) (iop fun i j => some (h i j)) := by
  intro f S H vx vy x y z Q hS rx ry hp hq
  unfold iop at hp
  split at hp
  · cases hp
    cases rx
    cases ry
    exact ⟨_, _, rfl, rfl, hq _ H hS (Kp.refl _ _) (Is.int _)⟩
  · cases hp
theorem opk_rel {h : Int → Int → Bool} : OpK X (rI0 fun i j => .bl (h i j)) (irel h) := by
  intro f S H vx vy x y z Q hS rx ry hp hq
  unfold irel at hp
  split at hp
  · cases hp
    cases rx
    cases ry
    exact ⟨_, _, rfl, rfl, hq _ H hS (Kp.refl _ _) (Is.bl _)⟩
  · cases hp
end
abbrev pAdd := iop fun i j => some (i + j)
abbrev pSub := iop fun i j => some (i - j)
/-- one factor is short -/
def short (i : Int) : Prop := -18446744073709551616 < i ∧ i < 18446744073709551616
noncomputable instance (i : Int) : Decidable (short i) := Classical.propDecidable _
def lt64 (i : Int) : Prop := i < 18446744073709551616
noncomputable instance (i : Int) : Decidable (lt64 i) := Classical.propDecidable _
@[simp] theorem lt64_iff (i : Int) : lt64 i ↔ i < 18446744073709551616 := Iff.rfl
def le1M (i : Int) : Prop := i ≤ 1000000
noncomputable instance (i : Int) : Decidable (le1M i) := Classical.propDecidable _
@[simp] theorem le1M_iff (i : Int) : le1M i ↔ i ≤ 1000000 := Iff.rfl
noncomputable abbrev pMul := iop fun i j => if short i ∨ short j then some (i * j) else none
noncomputable abbrev pDiv := iop fun i j => if 0 < j ∧ lt64 j then some (i / j) else none
abbrev pMod := iop fun i j => if 0 < j then some (i % j) else none
def pPow : SV → SV → Sto → Option SV := iop fun i j => if 0 ≤ j ∧ j ≤ 1000 ∧ -(10 ^ 60) ≤ i ∧ i ≤ 10 ^ 60 then some (i ^ j.toNat) else none
noncomputable abbrev pShl := iop fun i j => if 0 ≤ j ∧ le1M j ∧ short i then some (i * 2 ^ j.toNat) else none
abbrev pShr := iop fun i j => if 0 ≤ j then some (i / 2 ^ j.toNat) else none
abbrev pAnd := iop fun i j => some (Builtin.bitAnd i j)
abbrev pLt := irel fun i j => decide (i < j)
abbrev pLe := irel fun i j => decide (i ≤ j)
abbrev pGt := irel fun i j => decide (j < i)
abbrev pGe := irel fun i j => decide (j ≤ i)
section
variable {X : Cx} {W : WX} {a b c : Expr} {ea eb ec : Ex} {pos : Pos}
theorem de_add (ha : DE X W a ea) (hb : DE X W b eb) : DE X W (.BinOp a .Add b pos) (eBin pAdd ea eb) := de_bin op_add opk_int0 ha hb
theorem de_sub (ha : DE X W a ea) (hb : DE X W b eb) : DE X W (.BinOp a .Sub b pos) (eBin pSub ea eb) := de_bin op_sub opk_int0 ha hb
theorem short_pow {i : Int} (h : short i) : -(2 ^ 64) < i ∧ i < 2 ^ 64 := by
  have e : (2 : Int) ^ 64 = 18446744073709551616 := by decide
  rw [e]
  exact h
theorem de_mul (ha : DE X W a ea) (hb : DE X W b eb) : DE X W (.BinOp a .Mult b pos) (eBin pMul ea eb) := de_bin op_mul (opk_int fun i j k e => by
  split at e
  · rename_i h
    cases e
    exact ⟨h.imp short_pow short_pow, rfl⟩
  · cases e) ha hb
theorem de_div (ha : DE X W a ea) (hb : DE X W b eb) : DE X W (.BinOp a .FloorDiv b pos) (eBin pDiv ea eb) := de_bin op_fdivW (opk_int fun i j k e => by
  split at e
  · rename_i h
    cases e
    exact ⟨wide_div (b := 64) h.1 (by have := h.2; unfold lt64 at this; have e : (2 : Nat) ^ 64 = 18446744073709551616 := by decide
                                      rw [e]; omega) (by decide) (by decide), rfl⟩
  · cases e) ha hb
theorem de_mod (ha : DE X W a ea) (hb : DE X W b eb) : DE X W (.BinOp a .Mod b pos) (eBin pMod ea eb) := de_bin op_mod (opk_int fun i j k e => by
  split at e
  · rename_i h
    cases e
    exact ⟨h, rfl⟩
  · cases e) ha hb
theorem bits_of {i : Int} {n : Nat} (h : i.natAbs < 2 ^ n) : Builtin.Int.intBits i ≤ n := by
  unfold Builtin.Int.intBits
  first
    | (split
       · exact Nat.zero_le _
       · rename_i h0
         have h0' : i.natAbs ≠ 0 := by simpa using h0
         have := (Nat.log2_lt h0').mpr h
         omega)
    | (cases n with
       | zero => simp at h; subst h; decide
       | succ n =>
         by_cases h0 : i.natAbs = 0
         · simp [h0]
         · have := (Nat.log2_lt h0).mpr h
           simp [h0]; omega)
theorem op_powW : OpR X (binaryOp .Pow) (rI (fun i j => 0 ≤ j ∧ j ≤ 1000 ∧ i.natAbs < 2 ^ 200) fun i j => .int (i ^ j.toNat)) := opI fun i j _ _ _ _ _ hc q => by
  refine pow_int hc.1 ?_ q
  have h1 : (Builtin.Int.intBits i : Int) ≤ 200 := by exact_mod_cast bits_of hc.2.2
  have h2 : (Builtin.Int.intBits i : Int) * j ≤ 200 * 1000 := Int.mul_le_mul h1 hc.2.1 hc.1 (by decide)
  exact Int.le_trans h2 (by decide)
theorem de_pow (ha : DE X W a ea) (hb : DE X W b eb) : DE X W (.BinOp a .Pow b pos) (eBin pPow ea eb) := de_bin op_powW (opk_int fun i j k e => by
  split at e
  · rename_i h
    cases e
    refine ⟨⟨h.1, h.2.1, ?_⟩, rfl⟩
    have h3 : i.natAbs ≤ 10 ^ 60 := by
      have e : ((10 ^ 60 : Nat) : Int) = (10 : Int) ^ 60 := by decide
      omega
    exact Nat.lt_of_le_of_lt h3 (by decide)
  · cases e) ha hb
theorem de_shl (ha : DE X W a ea) (hb : DE X W b eb) : DE X W (.BinOp a .LShift b pos) (eBin pShl ea eb) := de_bin op_shl (opk_int fun i j k e => by
  split at e
  · rename_i h
    cases e
    refine ⟨⟨h.1, h.2.1, ?_⟩, rfl⟩
    have := short_pow h.2.2
    have e : ((2 ^ 64 : Nat) : Int) = (2 : Int) ^ 64 := by decide
    omega
  · cases e) ha hb
theorem de_shr (ha : DE X W a ea) (hb : DE X W b eb) : DE X W (.BinOp a .RShift b pos) (eBin pShr ea eb) := de_bin op_shr (opk_int fun i j k e => by
  split at e
  · rename_i h
    cases e
    exact ⟨h, rfl⟩
  · cases e) ha hb
theorem de_and_ (ha : DE X W a ea) (hb : DE X W b eb) : DE X W (.BinOp a .BitAnd b pos) (eBin pAnd ea eb) := de_bin op_and opk_int0 ha hb
theorem de_neg (ha : DE X W a ea) : DE X W (.UnaryOp .USub a pos) (eUn (fun x _ => match x with | .d (.int i) => some (.d (.int (-i))) | _ => none) ea) := de_un un_neg (by
  intro f S H vx x z Q hS rx hp hq
  dsimp only at hp
  split at hp
  · cases hp
    cases rx
    exact ⟨_, rfl, hq _ H hS (Kp.refl _ _) (Is.int _)⟩
  · cases hp) ha
theorem de_lt (ha : DE X W a ea) (hb : DE X W b eb) : DE X W (.Compare a [.Lt] [b] pos) (eBin pLt ea eb) := de_cmp op_lt opk_rel ha hb (nomark _)
theorem de_le (ha : DE X W a ea) (hb : DE X W b eb) : DE X W (.Compare a [.LtE] [b] pos) (eBin pLe ea eb) := de_cmp op_le opk_rel ha hb (nomark _)
theorem de_gt (ha : DE X W a ea) (hb : DE X W b eb) : DE X W (.Compare a [.Gt] [b] pos) (eBin pGt ea eb) := de_cmp op_gt opk_rel ha hb (nomark _)
theorem de_ge (ha : DE X W a ea) (hb : DE X W b eb) : DE X W (.Compare a [.GtE] [b] pos) (eBin pGe ea eb) := de_cmp op_ge opk_rel ha hb (nomark _)
theorem dt_lt (ha : DE X W a ea) (hb : DE X W b eb) : DT X W (.Compare a [.Lt] [b] pos) (tVal (eBin pLt ea eb)) := dt_cmp op_lt opk_rel ha hb (nomark _)
theorem dt_le (ha : DE X W a ea) (hb : DE X W b eb) : DT X W (.Compare a [.LtE] [b] pos) (tVal (eBin pLe ea eb)) := dt_cmp op_le opk_rel ha hb (nomark _)
theorem dt_gt (ha : DE X W a ea) (hb : DE X W b eb) : DT X W (.Compare a [.Gt] [b] pos) (tVal (eBin pGt ea eb)) := dt_cmp op_gt opk_rel ha hb (nomark _)
theorem dt_ge (ha : DE X W a ea) (hb : DE X W b eb) : DT X W (.Compare a [.GtE] [b] pos) (tVal (eBin pGe ea eb)) := dt_cmp op_ge opk_rel ha hb (nomark _)
/-- a op b op c -/
theorem chain_go {r r' : R2} {p p' : SV → SV → Sto → Option SV} (hk : OpK X r p) (hk' : OpK X r' p') (hp : ∀ x y S z, p x y S = some z → ∃ b, z = .d (.bool b)) {σV : L2.St} {H : Hp} {Q : VK} (h : TX X W (eChain p p' ea eb ec) σV H Q) : tChain r r' (TX X W ea) (TX X W eb) (TX X W ec) σV H Q := by
    obtain ⟨f, σ, S, r, hE, hS, he, hq⟩ := h
    have hx := exc_way hq
    refine TX.first hE hS he hx fun x S1 vx H1 _ h1 s1 k1 e1 r1 => ?_
    refine TX.first e1 s1 h1 (fun y S' e => (hx y S' e).kp k1) fun y S2 vy H2 _ h2 s2 k2 e2 r2 => ?_
    cases hpp : p x y S2 with
    | none => rw [hpp] at h2; cases h2
    | some z =>
      rw [hpp] at h2
      refine hk f S2 H2 vx vy x y z _ s2 (r1.kp k2) r2 hpp fun v H3 s3 k3 r3 => ?_
      obtain ⟨d, rfl⟩ := hp _ _ _ _ hpp
      cases r3
      refine ⟨d, rfl, ?_⟩
      cases d with
      | true =>
        dsimp only at h2
        rw [if_pos rfl]
        have k13 := (k1.trans k2).trans k3
        refine TX.first (e2.kp k3) s3 h2 (fun w S' e => (hx w S' e).kp k13) fun w S4 vw H4 _ h4 s4 k4 e4 r4 => ?_
        cases hp2 : p' y w S4 with
        | none => rw [hp2] at h4; cases h4
        | some u =>
          rw [hp2] at h4
          cases h4
          exact hk' f S4 H4 vy vw y w u Q s4 ((r2.kp k3).kp k4) r4 hp2 fun v H' s' k' r' => hq v H' s' ((k13.trans k4).trans k') r'
      | false =>
        dsimp only at h2
        rw [if_neg Bool.false_ne_true]
        cases h2
        exact hq _ H3 s3 ((k1.trans k2).trans k3) (Is.bl false)
theorem de_chain {op op' : CmpOp} {r r' : R2} {p p' : SV → SV → Sto → Option SV} (ho : OpR X (compareOp op) r) (ho' : OpR X (compareOp op') r') (hk : OpK X r p) (hk' : OpK X r' p') (hp : ∀ x y S z, p x y S = some z → ∃ b, z = .d (.bool b))
    (ha : DE X W a ea) (hb : DE X W b eb) (hc : DE X W c ec) (hm : lastMarks [op, op'] [b, c] = false := by with_unfolding_all rfl) : DE X W (.Compare a [op, op'] [b, c] pos) (eChain p p' ea eb ec) :=
  pe_imp (pe_chain ho ho' ha hb hc hm) fun σV H Q h => chain_go hk hk' hp h
theorem dt_chain {op op' : CmpOp} {r r' : R2} {p p' : SV → SV → Sto → Option SV} (ho : OpR X (compareOp op) r) (ho' : OpR X (compareOp op') r') (hk : OpK X r p) (hk' : OpK X r' p') (hp : ∀ x y S z, p x y S = some z → ∃ b, z = .d (.bool b))
    (ha : DE X W a ea) (hb : DE X W b eb) (hc : DE X W c ec) (hm : lastMarks [op, op'] [b, c] = false := by with_unfolding_all rfl) : DT X W (.Compare a [op, op'] [b, c] pos) (tVal (eChain p p' ea eb ec)) :=
  pt_imp (pt_chain ho ho' ha hb hc hm) fun σV H Q ⟨f, σ, S, r, hE, hS, he, hq⟩ => by
    unfold tVal at he
    refine chain_go (W := W) hk hk' hp ?_
    refine TX.first hE hS he (fun x S' e => by subst e; exact hq) fun x S1 vx H1 _ h1 s1 k1 e1 r1 => ?_
    split at h1
    · cases h1
      cases r1
      exact ⟨_, rfl, hq _ s1 k1⟩
    · cases h1
theorem irel_bool {h : Int → Int → Bool} : ∀ x y S z, irel h x y S = some z → ∃ b, z = .d (.bool b) := fun x y S z e => by
  unfold irel at e
  split at e
  · cases e; exact ⟨_, rfl⟩
  · cases e
theorem de_chLeLe (ha : DE X W a ea) (hb : DE X W b eb) (hc : DE X W c ec) (hm : lastMarks [CmpOp.LtE, CmpOp.LtE] [b, c] = false := by with_unfolding_all rfl) : DE X W (.Compare a [.LtE, .LtE] [b, c] pos) (eChain pLe pLe ea eb ec) := de_chain op_le op_le opk_rel opk_rel irel_bool ha hb hc hm
theorem de_chLeLt (ha : DE X W a ea) (hb : DE X W b eb) (hc : DE X W c ec) (hm : lastMarks [CmpOp.LtE, CmpOp.Lt] [b, c] = false := by with_unfolding_all rfl) : DE X W (.Compare a [.LtE, .Lt] [b, c] pos) (eChain pLe pLt ea eb ec) := de_chain op_le op_lt opk_rel opk_rel irel_bool ha hb hc hm

theorem dt_chLeLe (ha : DE X W a ea) (hb : DE X W b eb) (hc : DE X W c ec) (hm : lastMarks [CmpOp.LtE, CmpOp.LtE] [b, c] = false := by with_unfolding_all rfl) : DT X W (.Compare a [.LtE, .LtE] [b, c] pos) (tVal (eChain pLe pLe ea eb ec)) := dt_chain op_le op_le opk_rel opk_rel irel_bool ha hb hc hm
theorem dt_chLeLt (ha : DE X W a ea) (hb : DE X W b eb) (hc : DE X W c ec) (hm : lastMarks [CmpOp.LtE, CmpOp.Lt] [b, c] = false := by with_unfolding_all rfl) : DT X W (.Compare a [.LtE, .Lt] [b, c] pos) (tVal (eChain pLe pLt ea eb ec)) := dt_chain op_le op_lt opk_rel opk_rel irel_bool ha hb hc hm
/-! ## data: what a value is -/
@[simp] def res : SV → Sto → Option PyData
  | .d x, _ => some x
  | .r i, S => match S[i]? with
    | some (.lst ds) => some (.list ds)
    | _ => none
  | .s ns, _ => some (.list (ns.map .int))
  | .k _ _ _ _, _ => none
  | .t _ _ _ _ _, _ => none
theorem ints_nd : ∀ ns : List Int, PyData.hasDictAll (ns.map .int) = false
  | [] => by simp [PyData.hasDictAll]
  | n :: ns => by simp [PyData.hasDictAll, PyData.hasDict, ints_nd ns]
theorem rs_ints {X : Cx} {pins : List (Addr × Obj)} {σ : L2.St} {H : Hp} {s : Shared} (I : Inv X pins σ H s) : ∀ (ns : List Int) (us : List Value), Vals (ns.map V.int) us → ∃ as, ReadsAll s.heap us (ns.map .int) as
  | [], _, r => by
    cases r
    exact ⟨_, ReadsAll.nil⟩
  | n :: ns, _, r => by
    cases r with
    | cons r1 r2 =>
      obtain ⟨t, rfl⟩ := r1
      obtain ⟨as, h⟩ := rs_ints I ns _ r2
      exact ⟨_, ReadsAll.cons (Reads.int n t) h⟩
theorem res_rs {X : Cx} {f : Ow} {S : Sto} {H : Hp} {v : V} {x : SV} {d : PyData} (hS : StoR X.K f S H) (r : SvR X.K f H v x) (e : res x S = some d) : Rs X H v d := by
  intro pins σ s u I ru
  cases x with
  | d x =>
    cases e
    obtain ⟨as, h, n⟩ := Is.reads I _ _ _ r ru
    exact ⟨as, h, fun _ => n⟩
  | r i =>
    obtain ⟨a, ea, rfl⟩ := r
    simp only [res] at e
    split at e
    · rename_i ds e1
      cases e
      obtain ⟨vs, h1, h2⟩ := hS.at_ i _ a e1 ea
      cases ru
      obtain ⟨its, rv, ⟨o, n, ho, hc, _, hd⟩, _⟩ := I.list (.inl (.inl h1))
      obtain ⟨as, hr, hn⟩ := Is.readsAll I ds _ its h2 rv
      exact ⟨_, Reads.list ho hc hd hr, fun _ m => (List.mem_cons.mp m).elim (fun e => hS.sy.1 (e ▸ List.mem_of_getElem? ea)) hn⟩
    · cases e
  | s ns =>
    obtain ⟨a, rfl, h⟩ := r
    cases e
    cases ru
    obtain ⟨its, rv, ⟨o, n, ho, hc, _, hd⟩, _⟩ := I.list h.sq
    obtain ⟨as, hr⟩ := rs_ints I ns its rv
    refine ⟨_, Reads.list ho hc hd hr, fun z => ?_⟩
    have := ints_nd ns
    rw [PyData.hasDict, this] at z
    cases z
  | k a x c d => cases e
  | t a1 a2 a3 a4 a5 => cases e
/-- == that the model decides without looking further -/
def okD (d : PyData) : Bool := SeqAt.shaped d
def okQ (d e : PyData) : Prop := (okD d = true ∧ okD e = true) ∨ empD d e = true
theorem okQ_of {d e : PyData} (h1 : okD d = true) (h2 : okD e = true) : okQ d e := .inl ⟨h1, h2⟩
@[simp] theorem okQ_nilT (ds : List PyData) : okQ (.tuple ds) (.tuple []) := .inr rfl
@[simp] theorem okQ_nilL (ds : List PyData) : okQ (.list ds) (.list []) := .inr rfl
@[simp] theorem okQ_simp {d e : PyData} (h1 : okD d = true) (h2 : okD e = true) : okQ d e := .inl ⟨h1, h2⟩
open Classical in
@[simp] noncomputable def pEq : SV → SV → Sto → Option SV := fun x y S => match x, y with
  | .d (.str a), .d (.str b) => some (.d (.bool (decide (a = b))))
  | x, y => (res x S).bind fun d => (res y S).bind fun e => if okQ d e then some (.d (.bool (PyData.eqv d e))) else none
open Classical in
@[simp] noncomputable def pNe : SV → SV → Sto → Option SV := fun x y S => match x, y with
  | .d (.str a), .d (.str b) => some (.d (.bool (!decide (a = b))))
  | x, y => (res x S).bind fun d => (res y S).bind fun e => if okQ d e then some (.d (.bool (!PyData.eqv d e))) else none
theorem OpR.or {X : Cx} {f : Value → Value → Sem Value} {r r' : R2} (h : OpR X f r) (h' : OpR X f r') : OpR X f (fun x y H Q => r x y H Q ∨ r' x y H Q) := by
  intro pins s σ H x y v u Q I rx ry q
  rcases q with q | q
  · exact h pins s σ H x y v u Q I rx ry q
  · exact h' pins s σ H x y v u Q I rx ry q
theorem opk_eq : OpK X (fun x y H Q => rEqR X x y H Q ∨ rEq x y H Q) pEq := by
  intro f S H vx vy x y z Q hS rx ry hp hq
  unfold pEq at hp
  split at hp
  · rename_i a b
    cases hp
    cases rx
    cases ry
    refine .inr ⟨rfl, ?_⟩
    have e : decide (V.str a = V.str b) = decide (a = b) := by
      by_cases h : a = b
      · subst h; simp
      · have h2 : ¬ (V.str a = V.str b) := fun q => h (V.str.inj q)
        rw [decide_eq_false h, decide_eq_false h2]
    rw [e]
    exact hq _ H hS (Kp.refl _ _) (Is.bl _)
  · cases e1 : res x S with
    | none => rw [e1] at hp; cases hp
    | some d =>
    cases e2 : res y S with
    | none => rw [e1, e2] at hp; cases hp
    | some e =>
    rw [e1, e2] at hp
    dsimp only [Option.bind_some] at hp
    split at hp
    · rename_i h
      cases hp
      exact .inl ⟨d, e, res_rs hS rx e1, res_rs hS ry e2, h, hq _ H hS (Kp.refl _ _) (Is.bl _)⟩
    · cases hp
theorem opk_ne : OpK X (fun x y H Q => rNeR X x y H Q ∨ rNe x y H Q) pNe := by
  intro f S H vx vy x y z Q hS rx ry hp hq
  unfold pNe at hp
  split at hp
  · rename_i a b
    cases hp
    cases rx
    cases ry
    refine .inr ⟨rfl, ?_⟩
    have e : decide (V.str a = V.str b) = decide (a = b) := by
      by_cases h : a = b
      · subst h; simp
      · have h2 : ¬ (V.str a = V.str b) := fun q => h (V.str.inj q)
        rw [decide_eq_false h, decide_eq_false h2]
    rw [e]
    exact hq _ H hS (Kp.refl _ _) (Is.bl _)
  · cases e1 : res x S with
    | none => rw [e1] at hp; cases hp
    | some d =>
    cases e2 : res y S with
    | none => rw [e1, e2] at hp; cases hp
    | some e =>
    rw [e1, e2] at hp
    dsimp only [Option.bind_some] at hp
    split at hp
    · rename_i h
      cases hp
      exact .inl ⟨d, e, res_rs hS rx e1, res_rs hS ry e2, h, hq _ H hS (Kp.refl _ _) (Is.bl _)⟩
    · cases hp
theorem de_eq (G : Gq X) (ha : DE X W a ea) (hb : DE X W b eb) : DE X W (.Compare a [.Eq] [b] pos) (eBin pEq ea eb) := de_cmp (OpR.or (op_eqR (by have := G.un; omega)) op_eq) opk_eq ha hb (nomark _)
theorem de_ne (G : Gq X) (ha : DE X W a ea) (hb : DE X W b eb) : DE X W (.Compare a [.NotEq] [b] pos) (eBin pNe ea eb) := de_cmp (OpR.or (op_neR (by have := G.un; omega)) op_ne) opk_ne ha hb (nomark _)
theorem dt_eq (G : Gq X) (ha : DE X W a ea) (hb : DE X W b eb) : DT X W (.Compare a [.Eq] [b] pos) (tVal (eBin pEq ea eb)) := dt_cmp (OpR.or (op_eqR (by have := G.un; omega)) op_eq) opk_eq ha hb (nomark _)
theorem dt_ne (G : Gq X) (ha : DE X W a ea) (hb : DE X W b eb) : DT X W (.Compare a [.NotEq] [b] pos) (tVal (eBin pNe ea eb)) := dt_cmp (OpR.or (op_neR (by have := G.un; omega)) op_ne) opk_ne ha hb (nomark _)

/-! ## items -/
@[simp] def pIx : SV → SV → Sto → Option SV := fun x y S => match y with
  | .d (.int i) => match x with
    | .d (.list ds) => (atI ds i).map .d
    | .d (.tuple ds) => (atI ds i).map .d
    | .d (.str z) => if z.length ≤ sizeLine then (atI z.cps.toList i).map fun c => .d (.str ⟨#[c]⟩) else none
    | .r j => match S[j]? with
      | some (.lst ds) => (atI ds i).map .d
      | _ => none
    | .s ns => (atI ns i).map fun n => .d (.int n)
    | _ => none
  | _ => none
theorem at_is {K : PySem.W.Frag} {f : Ow} {H : Hp} {vs : List V} {ds : List PyData} {i : Int} {d : PyData} (h : IsAll K f H vs ds) (e : atI ds i = some d) : ∃ v, atI vs i = some v ∧ Is K f H v d := by
  unfold atI at e ⊢
  rw [h.len]
  cases en : ixN ds.length i with
  | none => rw [en] at e; cases e
  | some j =>
    rw [en] at e
    exact h.get e
theorem opk_ix : OpK X (rIx X.K) pIx := by
  intro f S H vx vy x y z Q hS rx ry hp hq
  unfold pIx at hp
  split at hp
  · rename_i i
    cases ry
    split at hp
    · rename_i ds
      cases e : atI ds i with
      | none => rw [e] at hp; cases hp
      | some d =>
        rw [e] at hp; cases hp
        cases rx with
        | @lst a xs _ h1 h2 =>
        obtain ⟨v, ev, iv⟩ := at_is h2 e
        exact .inl ⟨a, xs, i, v, rfl, rfl, h1.sq, ev, hq v H hS (Kp.refl _ _) iv⟩
    · rename_i ds
      cases e : atI ds i with
      | none => rw [e] at hp; cases hp
      | some d =>
        rw [e] at hp; cases hp
        cases rx with
        | @tup a xs _ h1 h2 =>
        obtain ⟨v, ev, iv⟩ := at_is h2 e
        exact .inr (.inl ⟨a, xs, i, v, rfl, rfl, h1.sq, ev, hq v H hS (Kp.refl _ _) iv⟩)
    · rename_i s
      split at hp
      · rename_i hz
        cases e : atI s.cps.toList i with
        | none => rw [e] at hp; cases hp
        | some c =>
          rw [e] at hp; cases hp
          cases rx
          exact .inr (.inr ⟨s, i, c, rfl, rfl, hz, e, hq _ H hS (Kp.refl _ _) (Is.str _)⟩)
      · cases hp
    · rename_i j
      split at hp
      · rename_i ds e0
        cases e : atI ds i with
        | none => rw [e] at hp; cases hp
        | some d =>
          rw [e] at hp; cases hp
          obtain ⟨a, ea, rfl⟩ := rx
          obtain ⟨xs, h1, h2⟩ := hS.at_ j _ a e0 ea
          obtain ⟨v, ev, iv⟩ := at_is h2 e
          exact .inl ⟨a, xs, i, v, rfl, rfl, .inl (.inl h1), ev, hq v H hS (Kp.refl _ _) iv⟩
      · cases hp
    · rename_i ns
      cases e : atI ns i with
      | none => rw [e] at hp; cases hp
      | some n =>
        rw [e] at hp; cases hp
        obtain ⟨a, rfl, h⟩ := rx
        refine .inl ⟨a, _, i, .int n, rfl, rfl, h.sq, ?_, hq _ H hS (Kp.refl _ _) (Is.int n)⟩
        unfold atI at e ⊢
        rw [List.length_map]
        cases en : ixN ns.length i with
        | none => rw [en] at e; cases e
        | some j =>
          rw [en] at e
          have e : ns[j]? = some n := e
          show (ns.map V.int)[j]? = some (.int n)
          rw [List.getElem?_map, e]; rfl
    · cases hp
  · cases hp
theorem de_ix (ha : DE X W a ea) (hb : DE X W b eb) (hs : PlainIx b := by intro _ _; rfl) : DE X W (.Subscript a b pos) (eBin pIx ea eb) :=
  pe_imp (pe_ix ix_seq ha hb hs) fun _ _ _ h => two opk_ix h
end
end Z
set_option maxRecDepth 100000
set_option maxHeartbeats 1000000
namespace Z
open PySem PySem.Spec PyProof.Rows L2

/-! ## tuple * int, any int -/
theorem tup_mul_same (l : Addr) (items : Array Value) (n : Nat) (dd : Option Addr) (sl : Array (Option Value)) (u : Tok) :
    Meets (Builtin.«tuple.__mul__» ⟨[.ref l, .int 1 u], []⟩) (fun _ R s => s.heap.get? l = some { cls := .type "tuple", dict := dd, data := .seq items n, slots := sl } ∧ R (.ok (.ret (Value.ref l))) s) :=
  .of_wp fun prog w A R s h => by
    obtain ⟨hp, g, d, tk, os⟩ := s
    obtain ⟨hl, h⟩ := h
    have f1 := AutoSeq1.idx_int
    wp_walk using wpAny_loadPart' hl
    repeat (first
      | (refine wpAny_ite_false (by decide) ?_; wp_walk using wpAny_loadPart' hl)
      | (refine wpAny_ite_true (by simp) ?_; wp_walk using wpAny_loadPart' hl))
    exact ⟨_, rfl, h⟩
theorem tup_mul_none (l : Addr) (items : Array Value) (n : Nat) (dd : Option Addr) (sl : Array (Option Value)) (x : Int) (u : Tok) (c0 : (decide (x < -(2 ^ 63)) || decide (x ≥ 2 ^ 63)) = false) (c1 : (items.isEmpty || x == 1) = false) (c2 : (decide (x ≤ 0) || items.isEmpty) = true) :
    Meets (Builtin.«tuple.__mul__» ⟨[.ref l, .int x u], []⟩) (fun _ R s => s.heap.get? l = some { cls := .type "tuple", dict := dd, data := .seq items n, slots := sl } ∧
      R (.ok (.ret (Value.ref s.heap.objs.size))) { s with heap := s.heap.push { cls := Value.type "tuple", data := Data.seq #[] }, toks := s.toks }) :=
  .of_wp fun prog w A R s h => by
    obtain ⟨hp, g, d, tk, os⟩ := s
    obtain ⟨hl, h⟩ := h
    have f1 := AutoSeq1.idx_int
    wp_walk using wpAny_loadPart' hl
    repeat (first
      | (refine wpAny_ite_false (decide_eq_false (by rw [c0]; exact Bool.false_ne_true)) ?_; wp_walk using wpAny_loadPart' hl)
      | (refine wpAny_ite_false (decide_eq_false (by rw [c1]; exact Bool.false_ne_true)) ?_; wp_walk using wpAny_loadPart' hl)
      | (refine wpAny_ite_true (decide_eq_true c2) ?_; wp_walk using wpAny_loadPart' hl)
      | (refine wpAny_ite_false (by decide) ?_; wp_walk using wpAny_loadPart' hl))
    exact ⟨_, rfl, h⟩
/-- any tuple that is not empty, any int -/
def rMulT (K : PySem.W.Frag) : R2 := fun x y H Q => ∃ l k xs, x = .ref l ∧ y = .int k ∧ SqT K H l xs ∧ xs ≠ [] ∧ -(2 ^ 63) ≤ k ∧ k ≤ 1000 ∧ xs.length ≤ 1000 ∧ (k = 1 → Q (.ref l) H) ∧ (k ≠ 1 → ∀ p, H p = none → Q (.ref p) (upd H p (.tup (List.replicate k.toNat xs).flatten)))
theorem op_mulT {X : Cx} : OpR X (binaryOp .Mult) (rMulT X.K) := by
  intro pins s σ H x y v u Q I rx ry h
  obtain ⟨l, k, xs, rfl, rfl, hT, hne, h1, h2, hz, q1, q2⟩ := h
  by_cases hk : 2 ≤ k
  · exact op_repT pins s σ H _ _ v u Q I rx ry ⟨l, k, xs, rfl, rfl, hT, hne, hk, h2, hz, q2 (by omega)⟩
  · cases rx
    obtain ⟨t, rfl⟩ := ry
    obtain ⟨its, r, ⟨⟨cls, dd, data, sl⟩, ho, hc, n, hd⟩, hs⟩ := I.tuple hT
    simp only at hc hd
    subst hc hd
    have hn : its ≠ [] := fun e => hne (by
      subst e
      cases r
      rfl)
    have hi : its.toArray.isEmpty = false := by
      cases its with
      | nil => exact absurd rfl hn
      | cons a b => rfl
    by_cases h3 : k = 1
    · subst h3
      refine wpAny_binaryOp_repeat_ref (T := "tuple") (U := "int") (by decide) ⟨_, ho, rfl⟩ (fun s' => typeIs_int s' 1 t) noFill_tuple_mul F.fills_int_mul F.slot_int_rmul repeat_tuple F.slot_int_index.lookup
        (call_meets F.slot_int_rmul (typeIs_int s 1 t) F.entry_int_rmul (F.args_int_rmul_2 _ _) (int_rmul_tuple 1 t l its.toArray n dd sl)
          ⟨ho, rfl, ⟨_, ho, rfl⟩, call_meets F.slot_tuple_mul ⟨_, ho, rfl⟩ F.entry_tuple_mul (F.args_tuple_mul_2 _ _) (tup_mul_same l its.toArray n dd sl t) ⟨ho, ?_⟩⟩)
      exact ⟨.ref l, H, I, rfl, q1 rfl⟩
    · have c0 : (decide (k < -(2 ^ 63)) || decide (k ≥ 2 ^ 63)) = false := by
        rw [decide_eq_false (by omega), decide_eq_false (by omega)] <;> rfl
      have c1 : (its.toArray.isEmpty || k == 1) = false := by
        rw [hi, Bool.false_or]
        exact beq_eq_false_iff_ne.mpr h3
      have c2 : (decide (k ≤ 0) || its.toArray.isEmpty) = true := by
        rw [decide_eq_true (by omega)]; rfl
      refine wpAny_binaryOp_repeat_ref (T := "tuple") (U := "int") (by decide) ⟨_, ho, rfl⟩ (fun s' => typeIs_int s' k t) noFill_tuple_mul F.fills_int_mul F.slot_int_rmul repeat_tuple F.slot_int_index.lookup
        (call_meets F.slot_int_rmul (typeIs_int s k t) F.entry_int_rmul (F.args_int_rmul_2 _ _) (int_rmul_tuple k t l its.toArray n dd sl)
          ⟨ho, rfl, ⟨_, ho, rfl⟩, call_meets F.slot_tuple_mul ⟨_, ho, rfl⟩ F.entry_tuple_mul (F.args_tuple_mul_2 _ _) (tup_mul_none l its.toArray n dd sl k t c0 c1 c2) ⟨ho, ?_⟩⟩)
      have ek : k.toNat = 0 := by omega
      have q := q2 h3
      rw [ek] at q
      refine ⟨.ref s.heap.objs.size, _, I.laid (t' := s.toks) (o := .tup []) (fun b ob q => Heap.get?_push_of_some _ q) (Nat.le_refl _) ?_, rfl, q _ (I.hok.fresh (Nat.le_refl _))⟩
      exact ⟨Nat.zero_le _, [], .nil, IsTup.new _ _⟩

/-! ## +, * of lists and tuples, beside ints -/
@[simp] def pMulA : SV → SV → Sto → Option SV := fun x y S => match x with
  | .d (.tuple ds) => match y with
    | .d (.int k) => if ds ≠ [] ∧ ds.length ≤ 1000 ∧ -1000 ≤ k ∧ k ≤ 1000 then some (.d (.tuple (List.replicate k.toNat ds).flatten)) else none
    | _ => none
  | .d (.list ds) => match y with
    | .d (.int k) => if ds.length ≤ 1000 ∧ -1000 ≤ k ∧ k ≤ 1000 then some (.d (.list (List.replicate k.toNat ds).flatten)) else none
    | _ => none
  | _ => none
theorem is_flat {K : PySem.W.Frag} {f : Ow} {H : Hp} {xs : List V} {ds : List PyData} (h : IsAll K f H xs ds) : ∀ k : Nat, IsAll K f H (List.replicate k xs).flatten (List.replicate k ds).flatten
  | 0 => .nil
  | k + 1 => by
    rw [List.replicate_succ, List.replicate_succ, List.flatten_cons, List.flatten_cons]
    exact h.app (is_flat h k)
section
variable {X : Cx} {W : WX} {a b c : Expr} {ea eb ec : Ex} {pos : Pos}
theorem opk_mulA : OpK X (fun x y H Q => rMulT X.K x y H Q ∨ rRep x y H Q) pMulA := by
  intro f S H vx vy x y z Q hS rx ry hp hq
  unfold pMulA at hp
  split at hp
  · rename_i ds
    split at hp
    · rename_i k
      split at hp
      · rename_i h
        cases hp
        cases ry
        cases rx with
        | @tup a xs _ h1 h2 =>
        refine .inl ⟨a, k, xs, rfl, rfl, h1.sq, ?_, by omega, h.2.2.2, by rw [h2.len]; exact h.2.1, fun e => ?_, fun e p np => ?_⟩
        · intro e
          subst e
          cases h2
          exact h.1 rfl
        · subst e
          refine hq _ H hS (Kp.refl _ _) ?_
          simp only [Int.toNat_one, List.replicate_succ, List.replicate_zero, List.flatten_cons, List.flatten_nil, List.append_nil]
          exact Is.tup h1 h2
        · exact hq _ _ (hS.laid np) (Kp.new np) (Is.tup (.inl ⟨.inl upd_same, hS.free np⟩) (is_flat (h2.keep (Kp.new np).q (Gr.refl _ _)) k.toNat))
      · cases hp
    · cases hp
  · rename_i ds
    split at hp
    · rename_i k
      split at hp
      · rename_i h
        cases hp
        cases ry
        cases rx with
        | @lst a xs _ h1 h2 =>
        refine .inr ⟨a, k, xs, rfl, rfl, h1.1, by omega, by omega, ?_, fun p np => ?_⟩
        · rw [h2.len]
          have : ds.length * k.toNat ≤ 1000 * 1000 := Nat.mul_le_mul h.1 (by omega)
          exact Nat.le_trans this (by decide)
        · exact hq _ _ (hS.laid np) (Kp.new np) (Is.lst ⟨upd_same, hS.free np⟩ (is_flat (h2.keep (Kp.new np).q (Gr.refl _ _)) k.toNat))
      · cases hp
    · cases hp
  · cases hp
theorem de_mulA (ha : DE X W a ea) (hb : DE X W b eb) : DE X W (.BinOp a .Mult b pos) (eBin pMulA ea eb) := de_bin (OpR.or op_mulT op_rep) opk_mulA ha hb
/-- lists: of the store too -/
@[simp] def asL : SV → Sto → Option (List PyData)
  | .d (.list ds), _ => some ds
  | .r i, S => match S[i]? with
    | some (.lst ds) => some ds
    | _ => none
  | _, _ => none
theorem asL_is {f : Ow} {S : Sto} {H : Hp} {v : V} {x : SV} {ds : List PyData} (hS : StoR X.K f S H) (r : SvR X.K f H v x) (e : asL x S = some ds) : ∃ a xs, v = .ref a ∧ H a = some (.lst xs) ∧ IsAll X.K f H xs ds := by
  unfold asL at e
  split at e
  · cases e
    cases r with
    | @lst a xs _ h1 h2 => exact ⟨a, xs, rfl, h1.1, h2⟩
  · split at e
    · rename_i ds e1
      cases e
      obtain ⟨a, ea, rfl⟩ := r
      obtain ⟨xs, h1, h2⟩ := hS.at_ _ _ a e1 ea
      exact ⟨a, xs, rfl, h1, h2⟩
    · cases e
  · cases e
@[simp] def pCat : SV → SV → Sto → Option SV := fun x y S => match x, y with
  | .d (.tuple ds), .d (.tuple es) => if ds.length + es.length ≤ sizeLine then some (.d (.tuple (ds ++ es))) else none
  | .d (.str s), .d (.str t) => if s.length + t.length ≤ sizeLine then some (.d (.str (s ++ t))) else none
  | x, y => (asL x S).bind fun ds => (asL y S).bind fun es => if ds.length + es.length ≤ sizeLine then some (.d (.list (ds ++ es))) else none
theorem opk_cat : OpK X (fun x y H Q => (rCatA X.K x y H Q ∨ rCat x y H Q) ∨ (∃ i j, x = .str i ∧ y = .str j ∧ i.length + j.length ≤ sizeLine ∧ Q (.str (i ++ j)) H)) pCat := by
  intro f S H vx vy x y z Q hS rx ry hp hq
  unfold pCat at hp
  split at hp
  · rename_i ds es
    split at hp
    · rename_i h
      cases hp
      cases rx with
      | @tup a xs _ h1 h2 =>
      cases ry with
      | @tup a' ys _ h1' h2' =>
      refine .inl (.inl ⟨a, a', xs, ys, rfl, rfl, h1.sq, h1'.sq, by rw [h2.len, h2'.len]; exact h, fun e => ?_, fun e1 e => ?_, fun e1 e2 p np => ?_⟩)
      · subst e
        cases h2
        exact hq _ H hS (Kp.refl _ _) (Is.tup h1' h2')
      · subst e
        cases h2'
        refine hq _ H hS (Kp.refl _ _) ?_
        rw [List.append_nil]
        exact Is.tup h1 h2
      · exact hq _ _ (hS.laid np) (Kp.new np) (Is.tup (.inl ⟨.inl upd_same, hS.free np⟩) ((h2.keep (Kp.new np).q (Gr.refl _ _)).app (h2'.keep (Kp.new np).q (Gr.refl _ _))))
    · cases hp
  · split at hp
    · rename_i h
      cases hp
      cases rx
      cases ry
      exact .inr ⟨_, _, rfl, rfl, h, hq _ H hS (Kp.refl _ _) (Is.str _)⟩
    · cases hp
  · cases e1 : asL x S with
    | none => rw [e1] at hp; cases hp
    | some ds =>
    cases e2 : asL y S with
    | none => rw [e1, e2] at hp; cases hp
    | some es =>
    rw [e1, e2] at hp
    dsimp only [Option.bind_some] at hp
    split at hp
    · rename_i h
      cases hp
      obtain ⟨a, xs, rfl, h1, h2⟩ := asL_is hS rx e1
      obtain ⟨b, ys, rfl, h1', h2'⟩ := asL_is hS ry e2
      refine .inl (.inr ⟨a, b, xs, ys, rfl, rfl, h1, h1', by rw [h2.len, h2'.len]; exact h, fun p np => ?_⟩)
      exact hq _ _ (hS.laid np) (Kp.new np) (Is.lst ⟨upd_same, hS.free np⟩ ((h2.keep (Kp.new np).q (Gr.refl _ _)).app (h2'.keep (Kp.new np).q (Gr.refl _ _))))
    · cases hp
theorem de_cat (ha : DE X W a ea) (hb : DE X W b eb) : DE X W (.BinOp a .Add b pos) (eBin pCat ea eb) := de_bin (OpR.or (OpR.or op_catA op_cat) op_add_str) opk_cat ha hb
/-- xs + ys, owned -/
@[simp] def nCat (ea eb : Ex) (σ : Sg) (S : Sto) : Option (Res Ob) := Res.bnd (ea σ S) fun x S1 => Res.bnd (eb σ S1) fun y S2 => (asL x S2).bind fun ds => (asL y S2).bind fun es => if ds.length + es.length ≤ sizeLine then some (.ok (.lst (ds ++ es)) S2) else none
theorem dn_cat (ha : DE X W a ea) (hb : DE X W b eb) : DN X W (.BinOp a .Add b pos) (nCat ea eb) :=
  pe_imp (pe_op op_cat ha hb) fun σV H Q ⟨f, σ, S, r, hE, hS, he, hq⟩ => by
    have hx : ∀ x S', r = .exc x S' → XS X W f σV H x S' := fun x S' e => by subst e; exact hq
    refine TX.first hE hS he hx fun x S1 vx H1 _ h1 s1 k1 e1 r1 => ?_
    refine TX.first e1 s1 h1 (fun y S' e => (hx y S' e).kp k1) fun y S2 vy H2 _ h2 s2 k2 e2 r2 => ?_
    cases ex : asL x S2 with
    | none => rw [ex] at h2; cases h2
    | some ds =>
    cases ey : asL y S2 with
    | none => rw [ex, ey] at h2; cases h2
    | some es =>
    rw [ex, ey] at h2
    dsimp only [Option.bind_some] at h2
    split at h2
    · rename_i h
      cases h2
      obtain ⟨a, xs, rfl, g1, g2⟩ := asL_is s2 (r1.kp k2) ex
      obtain ⟨b, ys, rfl, g1', g2'⟩ := asL_is s2 r2 ey
      refine ⟨a, b, xs, ys, rfl, rfl, g1, g1', by rw [g2.len, g2'.len]; exact h, fun p np => ?_⟩
      have k12 := k1.trans k2
      have nH : H p = none := by
        cases eH : H p with
        | none => rfl
        | some o =>
          have z := k12 p o (s2.free np).1 eH
          rw [np] at z; cases z
      have npp : ∀ b ∈ [p], H2 b = none := fun b hb => by
        have e' : b = p := by simpa using hb
        rw [e']; exact np
      exact hq p _ nH (s2.own np ⟨_, upd_same, (g2.keep (Kp.new np).q (Gr.app npp)).app (g2'.keep (Kp.new np).q (Gr.app npp))⟩) (k12.trans (Kp.new np))
    · cases h2
end
end Z
set_option maxRecDepth 100000
set_option maxHeartbeats 1000000
namespace Z
open PySem PySem.Spec PyProof.Rows L2

/-! ## what is built in -/
@[simp] def pLen : List SV → Sto → Option SV
  | [.d (.list ds)], _ => some (.d (.int ds.length))
  | [.d (.tuple ds)], _ => some (.d (.int ds.length))
  | [.d (.str z)], _ => if z.length ≤ sizeLine then some (.d (.int z.length)) else none
  | [.r i], S => match S[i]? with
    | some (.lst ds) => some (.d (.int ds.length))
    | _ => none
  | [.s ns], _ => some (.d (.int ns.length))
  | _, _ => none
section
variable {X : Cx} {W : WX}
theorem cak_len : CaK X (fun xs H Q => ∃ x n, xs = [x] ∧ LenV X.K x H n ∧ Q (.int n) H) pLen := by
  intro f S H vs xs z Q hS rx hp hq
  unfold pLen at hp
  split at hp
  · rename_i ds
    cases hp
    cases rx with
    | cons r1 r2 =>
    cases r2
    cases r1 with
    | @lst a xs _ h1 h2 => exact ⟨_, ds.length, rfl, .inl ⟨xs, h1.sq, h2.len.symm⟩, hq _ H hS (Kp.refl _ _) (Is.int _)⟩
  · rename_i ds
    cases hp
    cases rx with
    | cons r1 r2 =>
    cases r2
    cases r1 with
    | @tup a xs _ h1 h2 => exact ⟨_, ds.length, rfl, .inr ⟨xs, h1.sq, h2.len.symm⟩, hq _ H hS (Kp.refl _ _) (Is.int _)⟩
  · split at hp
    · rename_i hz
      cases hp
      cases rx with
      | cons r1 r2 =>
      cases r2
      cases r1
      exact ⟨_, _, rfl, ⟨hz, rfl⟩, hq _ H hS (Kp.refl _ _) (Is.int _)⟩
    · cases hp
  · split at hp
    · rename_i ds e1
      cases hp
      cases rx with
      | cons r1 r2 =>
      cases r2
      obtain ⟨a, ea, rfl⟩ := r1
      obtain ⟨vs, h1, h2⟩ := hS.at_ _ _ a e1 ea
      exact ⟨_, ds.length, rfl, .inl ⟨vs, .inl (.inl h1), h2.len.symm⟩, hq _ H hS (Kp.refl _ _) (Is.int _)⟩
    · cases hp
  · rename_i ns
    cases hp
    cases rx with
    | cons r1 r2 =>
    cases r2
    obtain ⟨a, rfl, h⟩ := r1
    exact ⟨_, ns.length, rfl, .inl ⟨_, h.sq, by simp⟩, hq _ H hS (Kp.refl _ _) (Is.int _)⟩
  · cases hp
@[simp] def pI1 (g : Int → Int) : List SV → Sto → Option SV
  | [.d (.int i)], _ => some (.d (.int (g i)))
  | _, _ => none
@[simp] def pI2 (g : Int → Int → Int) : List SV → Sto → Option SV
  | [.d (.int i), .d (.int j)], _ => some (.d (.int (g i j)))
  | _, _ => none
theorem cak_i1 {g : Int → Int} : CaK X (fun xs H Q => ∃ i, xs = [.int i] ∧ Q (.int (g i)) H) (pI1 g) := by
  intro f S H vs xs z Q hS rx hp hq
  unfold pI1 at hp
  split at hp
  · cases hp
    cases rx with
    | cons r1 r2 =>
    cases r2
    cases r1
    exact ⟨_, rfl, hq _ H hS (Kp.refl _ _) (Is.int _)⟩
  · cases hp
theorem cak_i2 {g : Int → Int → Int} : CaK X (fun xs H Q => ∃ i j, xs = [.int i, .int j] ∧ Q (.int (g i j)) H) (pI2 g) := by
  intro f S H vs xs z Q hS rx hp hq
  unfold pI2 at hp
  split at hp
  · cases hp
    cases rx with
    | cons r1 r2 =>
    cases r2 with
    | cons r2 r3 =>
    cases r3
    cases r1
    cases r2
    exact ⟨_, _, rfl, hq _ H hS (Kp.refl _ _) (Is.int _)⟩
  · cases hp
abbrev pAbs := pI1 fun i => if i < 0 then -i else i
abbrev pMax := pI2 fun i j => if j > i then j else i
abbrev pMin := pI2 fun i j => if j < i then j else i
@[simp] def pInt : List SV → Sto → Option SV
  | [.d (.int i)], _ => some (.d (.int i))
  | [.d (.bool b)], _ => some (.d (.int (if b then 1 else 0)))
  | _, _ => none
theorem cak_int : CaK X (fun xs H Q => (∃ i, xs = [.int i] ∧ Q (.int i) H) ∨ ∃ k, xs = [.bl k] ∧ Q (.int (if k then 1 else 0)) H) pInt := by
  intro f S H vs xs z Q hS rx hp hq
  unfold pInt at hp
  split at hp
  · cases hp
    cases rx with
    | cons r1 r2 =>
    cases r2
    cases r1
    exact .inl ⟨_, rfl, hq _ H hS (Kp.refl _ _) (Is.int _)⟩
  · cases hp
    cases rx with
    | cons r1 r2 =>
    cases r2
    cases r1
    exact .inr ⟨_, rfl, hq _ H hS (Kp.refl _ _) (Is.int _)⟩
  · cases hp
/-- str(an int), str(a text) -/
@[simp] def pStr : List SV → Sto → Option SV
  | [.d (.int i)], _ => if i.natAbs.log2 < 1920 then some (.d (.str (toString i))) else none
  | [.d (.str x)], _ => some (.d (.str x))
  | _, _ => none
theorem cak_str : CaK X (fun xs H Q => (∃ i, xs = [.int i] ∧ i.natAbs.log2 < 1920 ∧ Q (.str (toString i)) H) ∨ ∃ a, xs = [.str a] ∧ Q (.str a) H) pStr := by
  intro f S H vs xs z Q hS rx hp hq
  unfold pStr at hp
  split at hp
  · split at hp
    · rename_i hz
      cases hp
      cases rx with
      | cons r1 r2 =>
      cases r2
      cases r1
      exact .inl ⟨_, rfl, hz, hq _ H hS (Kp.refl _ _) (Is.str _)⟩
    · cases hp
  · cases hp
    cases rx with
    | cons r1 r2 =>
    cases r2
    cases r1
    exact .inr ⟨_, rfl, hq _ H hS (Kp.refl _ _) (Is.str _)⟩
  · cases hp
/-- list(x), tuple(x) -/
@[simp] def pListOf : List SV → Sto → Option SV
  | [.d (.tuple ds)], _ => some (.d (.list ds))
  | [x], S => (asL x S).map fun ds => .d (.list ds)
  | _, _ => none
theorem cak_listof : CaK X (fun xs H Q => ∃ p ys, xs = [.ref p] ∧ (SqL X.K H p ys ∨ SqT X.K H p ys) ∧ ∀ l, H l = none → Q (.ref l) (upd H l (.lst ys))) pListOf := by
  intro f S H vs xs z Q hS rx hp hq
  unfold pListOf at hp
  split at hp
  · cases hp
    cases rx with
    | cons r1 r2 =>
    cases r2
    cases r1 with
    | @tup a ys _ h1 h2 =>
    exact ⟨a, ys, rfl, .inr h1.sq, fun l nl => hq _ _ (hS.laid nl) (Kp.new nl) (Is.lst ⟨upd_same, hS.free nl⟩ (h2.keep (Kp.new nl).q (Gr.refl _ _)))⟩
  · rename_i x _
    cases e : asL x S with
    | none => rw [e] at hp; cases hp
    | some ds =>
    rw [e] at hp
    cases hp
    cases rx with
    | cons r1 r2 =>
    cases r2
    obtain ⟨a, ys, rfl, h1, h2⟩ := asL_is hS r1 e
    exact ⟨a, ys, rfl, .inl (.inl (.inl h1)), fun l nl => hq _ _ (hS.laid nl) (Kp.new nl) (Is.lst ⟨upd_same, hS.free nl⟩ (h2.keep (Kp.new nl).q (Gr.refl _ _)))⟩
  · cases hp
@[simp] def pTupOf : List SV → Sto → Option SV
  | [.d (.tuple ds)], _ => some (.d (.tuple ds))
  | [x], S => (asL x S).map fun ds => .d (.tuple ds)
  | _, _ => none
theorem cak_tupof : CaK X (fun xs H Q => ∃ p ys, xs = [.ref p] ∧ ((SqL X.K H p ys ∧ ∀ l, H l = none → Q (.ref l) (upd H l (.tup ys))) ∨ (SqT X.K H p ys ∧ Q (.ref p) H))) pTupOf := by
  intro f S H vs xs z Q hS rx hp hq
  unfold pTupOf at hp
  split at hp
  · cases hp
    cases rx with
    | cons r1 r2 =>
    cases r2
    cases r1 with
    | @tup a ys _ h1 h2 =>
    exact ⟨a, ys, rfl, .inr ⟨h1.sq, hq _ H hS (Kp.refl _ _) (Is.tup h1 h2)⟩⟩
  · rename_i x _
    cases e : asL x S with
    | none => rw [e] at hp; cases hp
    | some ds =>
    rw [e] at hp
    cases hp
    cases rx with
    | cons r1 r2 =>
    cases r2
    obtain ⟨a, ys, rfl, h1, h2⟩ := asL_is hS r1 e
    exact ⟨a, ys, rfl, .inl ⟨.inl (.inl h1), fun l nl => hq _ _ (hS.laid nl) (Kp.new nl) (Is.tup (.inl ⟨.inl upd_same, hS.free nl⟩) (h2.keep (Kp.new nl).q (Gr.refl _ _)))⟩⟩
  · cases hp
/-- the ints, the bools of data -/
def intsD : List PyData → Option (List Int)
  | [] => some []
  | .int i :: r => (intsD r).map (i :: ·)
  | _ :: _ => none
def boolsD : List PyData → Option (List Bool)
  | [] => some []
  | .bool i :: r => (boolsD r).map (i :: ·)
  | _ :: _ => none
theorem intsD_eq : ∀ {ds : List PyData} {ns : List Int}, intsD ds = some ns → ds = ns.map .int
  | [], _, h => by cases h; rfl
  | .int i :: r, ns, h => by
    unfold intsD at h
    cases e : intsD r with
    | none => rw [e] at h; cases h
    | some ms =>
      rw [e] at h
      cases h
      rw [intsD_eq e]; rfl
  | .none :: _, _, h => by cases h
  | .bool _ :: _, _, h => by cases h
  | .str _ :: _, _, h => by cases h
  | .list _ :: _, _, h => by cases h
  | .tuple _ :: _, _, h => by cases h
  | .dict _ :: _, _, h => by cases h
theorem boolsD_eq : ∀ {ds : List PyData} {ns : List Bool}, boolsD ds = some ns → ds = ns.map .bool
  | [], _, h => by cases h; rfl
  | .bool i :: r, ns, h => by
    unfold boolsD at h
    cases e : boolsD r with
    | none => rw [e] at h; cases h
    | some ms =>
      rw [e] at h
      cases h
      rw [boolsD_eq e]; rfl
  | .none :: _, _, h => by cases h
  | .int _ :: _, _, h => by cases h
  | .str _ :: _, _, h => by cases h
  | .list _ :: _, _, h => by cases h
  | .tuple _ :: _, _, h => by cases h
  | .dict _ :: _, _, h => by cases h
theorem intsD_map (ns : List Int) : intsD (ns.map .int) = some ns := by
  induction ns with
  | nil => rfl
  | cons n ns ih => simp [intsD, ih]
theorem boolsD_map (ns : List Bool) : boolsD (ns.map .bool) = some ns := by
  induction ns with
  | nil => rfl
  | cons n ns ih => simp [boolsD, ih]
@[simp] def pSum : List SV → Sto → Option SV
  | [x], S => (asL x S).bind fun ds => (intsD ds).map fun ns => .d (.int ns.sum)
  | _, _ => none
@[simp] def pAll : List SV → Sto → Option SV
  | [x], S => (asL x S).bind fun ds => (boolsD ds).map fun ns => .d (.bool (ns.all id))
  | _, _ => none
@[simp] def pAny : List SV → Sto → Option SV
  | [x], S => (asL x S).bind fun ds => (boolsD ds).map fun ns => .d (.bool (ns.any id))
  | _, _ => none
theorem cak_sum : CaK X (rSum X.K) pSum := by
  intro f S H vs xs z Q hS rx hp hq
  unfold pSum at hp
  split at hp
  · rename_i x
    cases e : asL x S with
    | none => rw [e] at hp; cases hp
    | some ds =>
    rw [e] at hp
    cases ei : intsD ds with
    | none => dsimp only [Option.bind_some] at hp; rw [ei] at hp; cases hp
    | some ns =>
    dsimp only [Option.bind_some] at hp
    rw [ei] at hp
    cases hp
    cases rx with
    | cons r1 r2 =>
    cases r2
    obtain ⟨a, ys, rfl, h1, h2⟩ := asL_is hS r1 e
    rw [intsD_eq ei] at h2
    have := h2.ints
    subst this
    exact ⟨a, ns, rfl, .inl (.inl h1), hq _ H hS (Kp.refl _ _) (Is.int _)⟩
  · cases hp
theorem cak_all : CaK X (rAll X.K) pAll := by
  intro f S H vs xs z Q hS rx hp hq
  unfold pAll at hp
  split at hp
  · rename_i x
    cases e : asL x S with
    | none => rw [e] at hp; cases hp
    | some ds =>
    rw [e] at hp
    cases ei : boolsD ds with
    | none => dsimp only [Option.bind_some] at hp; rw [ei] at hp; cases hp
    | some ns =>
    dsimp only [Option.bind_some] at hp
    rw [ei] at hp
    cases hp
    cases rx with
    | cons r1 r2 =>
    cases r2
    obtain ⟨a, ys, rfl, h1, h2⟩ := asL_is hS r1 e
    rw [boolsD_eq ei] at h2
    have := h2.bools
    subst this
    exact ⟨a, ns, rfl, .inl (.inl h1), hq _ H hS (Kp.refl _ _) (Is.bl _)⟩
  · cases hp
theorem cak_any : CaK X (rAny X.K) pAny := by
  intro f S H vs xs z Q hS rx hp hq
  unfold pAny at hp
  split at hp
  · rename_i x
    cases e : asL x S with
    | none => rw [e] at hp; cases hp
    | some ds =>
    rw [e] at hp
    cases ei : boolsD ds with
    | none => dsimp only [Option.bind_some] at hp; rw [ei] at hp; cases hp
    | some ns =>
    dsimp only [Option.bind_some] at hp
    rw [ei] at hp
    cases hp
    cases rx with
    | cons r1 r2 =>
    cases r2
    obtain ⟨a, ys, rfl, h1, h2⟩ := asL_is hS r1 e
    rw [boolsD_eq ei] at h2
    have := h2.bools
    subst this
    exact ⟨a, ns, rfl, .inl (.inl h1), hq _ H hS (Kp.refl _ _) (Is.bl _)⟩
  · cases hp

/-! ## repr of data -/
def rRepr (X : Cx) : List V → Hp → VK → Prop := fun vs H Q => ∃ v d, vs = [v] ∧ Rs X H v d ∧ d.showable = true ∧ d.depth ≤ 100 ∧ d.shown.length ≤ sizeLine ∧ Q (.str d.shown) H
theorem call_repr_d (G : Gq X) : CallR X (.builtin "repr") (rRepr X) := by
  intro pins s σ H vs us Q I rv h
  obtain ⟨v, d, rfl, rs, hs, hd, hz, q⟩ := h
  obtain ⟨u, rfl, ru⟩ := vals1 rv
  have room := G.un
  obtain ⟨as, r, nd⟩ := rs pins σ s u I ru
  have fin : ∀ (tk : Tok), EP X pins σ Q (.str d.shown tk) { s with toks := s.toks + 1 } := fun tk => ⟨.str d.shown, H, I.tok _, ⟨_, rfl⟩, q⟩
  cases r with
  | none => exact PySem.P.repr_of_none (fin _)
  | bool b => exact PySem.P.repr_of_bool (fin _)
  | int i t =>
    have hl : i.natAbs.log2 < 1920 := by simpa [PyData.showable] using hs
    exact PySem.P.repr_of_int hl (fin _)
  | str x t => exact PySem.P.repr_of_str (fin _) hz
  | list a1 a2 a3 a4 => exact repr_of_reads' (.list a1 a2 a3 a4) hs nd G.gd (by omega) (fun _ _ e => e) (fun h' u tk hk => ⟨.str _, H, I.kept hk, ⟨_, rfl⟩, q⟩) hz
  | tuple a1 a2 a3 a4 => exact repr_of_reads' (.tuple a1 a2 a3 a4) hs nd G.gd (by omega) (fun _ _ e => e) (fun h' u tk hk => ⟨.str _, H, I.kept hk, ⟨_, rfl⟩, q⟩) hz
  | dict a1 a2 a3 a4 a5 => exact repr_of_reads' (.dict a1 a2 a3 a4 a5) hs nd G.gd (by omega) (fun _ _ e => e) (fun h' u tk hk => ⟨.str _, H, I.kept hk, ⟨_, rfl⟩, q⟩) hz
def okR (d : PyData) : Prop := d.showable = true ∧ d.depth ≤ 100 ∧ d.shown.length ≤ sizeLine
open Classical in
@[simp] noncomputable def pRepr : List SV → Sto → Option SV
  | [x], S => (res x S).bind fun d => if okR d then some (.d (.str d.shown)) else none
  | _, _ => none
theorem cak_repr : CaK X (rRepr X) pRepr := by
  intro f S H vs xs z Q hS rx hp hq
  unfold pRepr at hp
  split at hp
  · rename_i x
    cases e : res x S with
    | none => rw [e] at hp; cases hp
    | some d =>
    rw [e] at hp
    dsimp only [Option.bind_some] at hp
    split at hp
    · rename_i h
      cases hp
      cases rx with
      | cons r1 r2 =>
      cases r2
      exact ⟨_, d, rfl, res_rs hS r1 e, h.1, h.2.1, h.2.2, hq _ H hS (Kp.refl _ _) (Is.str _)⟩
    · cases hp
  · cases hp
end
end Z
set_option maxRecDepth 100000
set_option maxHeartbeats 1000000
namespace Z
open PySem PySem.Spec PyProof.Rows L2

/-! ## isinstance with a built-in class -/
@[simp] def tyN : PyData → String
  | .none => "NoneType"
  | .bool _ => "bool"
  | .int _ => "int"
  | .str _ => "str"
  | .list _ => "list"
  | .tuple _ => "tuple"
  | .dict _ => "dict"
@[simp] def isN (t n : String) : Bool := t == n || (t == "bool" && n == "int")
@[simp] def tySV : SV → Sto → Option String
  | .d x, _ => some (tyN x)
  | .r i, S => match S[i]? with
    | some (.lst _) => some "list"
    | some (.dct _) => some "dict"
    | _ => none
  | .s _, _ => none
  | .k _ _ _ _, _ => none
  | .t _ _ _ _ _, _ => none
theorem tySV_is {K : PySem.W.Frag} {f : Ow} {S : Sto} {H : Hp} {v : V} {x : SV} {t : String} (hS : StoR K f S H) (r : SvR K f H v x) (e : tySV x S = some t) : TyX K H v (.type t) := by
  cases x with
  | d x =>
    cases e
    cases r with
    | non => exact .base .non
    | bl b => exact .base (.bl b)
    | int i => exact .base (.int i)
    | str x => exact .base (.str x)
    | lst h1 h2 => exact .base (.lst h1.1)
    | tup h1 h2 =>
      rcases h1 with ⟨h1 | ⟨o, h1⟩, _⟩ | ⟨o, its, n, h1, h2, _⟩
      · exact .base (.tup h1)
      · exact .fTuple h1
      · exact .kTuple h1 h2
    | dic h1 h2 h3 =>
      rcases h1 with h1 | ⟨o, h1⟩
      · exact .base (.dK h1)
      · exact .fDict h1
  | r i =>
    obtain ⟨a, ea, rfl⟩ := r
    simp only [tySV] at e
    split at e
    · rename_i ds e1
      cases e
      obtain ⟨vs, h1, h2⟩ := hS.at_ _ _ a e1 ea
      exact .base (.lst h1)
    · rename_i ds e1
      cases e
      obtain ⟨vs, h1, h2⟩ := hS.at_ _ _ a e1 ea
      exact .base (.dK h1)
    · cases e
  | s ns => cases e
  | k a x c d => cases e
  | t a1 a2 a3 a4 a5 => cases e
@[simp] def eIsi (n : String) (a : Ex) (σ : Sg) (S : Sto) : Option (Res SV) := Res.bnd (a σ S) fun x S1 => (tySV x S1).map fun t => .ok (.d (.bool (isN t n))) S1
/-- the built-in classes that are asked for here -/
def asked (n : String) : Prop := n = "int" ∨ n = "bool" ∨ n = "str" ∨ n = "list" ∨ n = "tuple" ∨ n = "dict"
theorem kit_tab : ∀ t ∈ ["NoneType", "bool", "int", "str", "list", "tuple", "dict"], ∀ n ∈ ["int", "bool", "str", "list", "tuple", "dict"], kitB t n = some (isN t n) := by decide +kernel
theorem kit_all {K : PySem.W.Frag} {n : String} (hn : asked n) (d : PyData) : PySem.W.kitOne K (.type (tyN d)) (.type n) = some (isN (tyN d) n) := by
  have h2 : n ∈ ["int", "bool", "str", "list", "tuple", "dict"] := by rcases hn with rfl | rfl | rfl | rfl | rfl | rfl <;> simp
  have h1 : tyN d ∈ ["NoneType", "bool", "int", "str", "list", "tuple", "dict"] := by cases d <;> simp [tyN]
  exact kit_ty (kit_tab _ h1 _ h2)
theorem kit_sv {K : PySem.W.Frag} {n t : String} {x : SV} {S : Sto} (hn : asked n) (e : tySV x S = some t) : PySem.W.kitOne K (.type t) (.type n) = some (isN t n) := by
  cases x with
  | d x => cases e; exact kit_all hn x
  | r i =>
    simp only [tySV] at e
    split at e
    · cases e; exact kit_all hn (.list [])
    · cases e; exact kit_all hn (.dict [])
    · cases e
  | s ns => cases e
  | k a x c d => cases e
  | t a1 a2 a3 a4 a5 => cases e
section
variable {X : Cx} {W : WX} {a b c o : Expr} {es : List Expr} {ea eb ec eo : Ex} {fs : Exs} {pos p0 p1 apos : Pos}
theorem de_isi {n : String} {x : Str} (hn : asked n) (hm : X.mg "isinstance" = none) (hmT : X.mg x = none) (hv : bootBuiltins x = some (.type n)) (ha : DE X W a ea) (hg : Gl X "isinstance" := by rfl) (hgT : Gl X x := by rfl)
    (hn1 : x ≠ "__name__" := by decide) (hd1 : (x == ("__debug__" : Str)) = false := by decide)
    (he : starEach [a, .Name x p1] X.env = (false, eval a X.env) :: starEach [.Name x p1] X.env := by rfl) (he2 : starEach [.Name x p1] X.env = (false, eval (.Name x p1) X.env) :: starEach [] X.env := by rfl)
    (hpl : (backTo pos (starEach [.Name x p1] X.env)).any (·.1) = false := by rfl) : DE X W (.Call (.Name "isinstance" p0) [a, .Name x p1] [] pos) (eIsi n ea) :=
  pe_imp (pe_callB call_isi hg hm PyProof.Rows.boot_isinstance (pa_cons ha (pa_cons (pe_bltn hgT hmT hv (v := .ty n) rfl hn1 hd1) pa_nil he2) he) (he := he) (hpl := hpl)) fun σV H Q ⟨f, σ, S, r, hE, hS, hr, hq⟩ => by
    refine TX.first hE hS hr (exc_way hq) fun y S1 vy H1 _ h1 s1 k1 e1 r1 => ?_
    cases e : tySV y S1 with
    | none => rw [e] at h1; cases h1
    | some t =>
      rw [e] at h1
      cases h1
      exact ⟨vy, .ty n, .type t, .type n, isN t n, rfl, .ty n, tySV_is s1 r1 e, kit_sv hn e, hq _ H1 s1 k1 (Is.bl _)⟩

/-! ## append, a store by place -/
@[simp] def eApp (eo ea : Ex) (σ : Sg) (S : Sto) : Option (Res SV) := Res.bnd (eo σ S) fun x S1 => match x with
  | .r i => match S1[i]? with
    | some (.lst _) => Res.bnd (ea σ S1) fun y S2 => match y with
      | .d d => match S2[i]? with
        | some (.lst ds) => if ds.length < sizeLine then some (.ok (.d .none) (S2.set i (.lst (ds ++ [d])))) else none
        | _ => none
      | _ => none
    | _ => none
  | _ => none
theorem de_append (ho : DE X W o eo) (ha : DE X W a ea) (hbase : attributeBase o "append" X.env (eval o X.env) = eval o X.env := by rfl)
    (hfew : ((backTo pos (starEach [a] X.env)).all (fun x => !x.1) && (backToKw pos (keywordEach [] X.env)).all (fun x => x.1.isSome)
      && decide ([a].length + ([] : List Keyword).length + (if ([] : List Keyword).isEmpty then 0 else 1) < 30)) = true := by rfl)
    (hline : (apos.endLine == pos.line) = true := by rfl) (hs : starEach [a] X.env = (false, eval a X.env) :: starEach [] X.env := by rfl) (hplain : (backTo pos (starEach [] X.env)).any (·.1) = false := by rfl) :
    DE X W (.Call (.Attribute o "append" apos) [a] [] pos) (eApp eo ea) :=
  pe_imp (pe_bm PySem.F.plainAttrs_list PySem.F.slot_list_append PySem.F.type_list_append mt_append ho (pa_cons ha pa_nil hs) hbase hfew hline hs hplain) fun σV H Q ⟨f, σ, S, r, hE, hS, hr, hq⟩ => by
    have hx := exc_way hq
    refine TX.first hE hS hr hx fun x S1 vx H1 g1 h1 s1 k1 e1 r1 => ?_
    cases x with
    | d x => cases h1
    | s ns => cases h1
    | k a x c d => cases h1
    | t a1 a2 a3 a4 a5 => cases h1
    | r i =>
    obtain ⟨p, ep, rfl⟩ := r1
    dsimp only at h1
    split at h1
    case h_2 => cases h1
    rename_i ds0 es0
    obtain ⟨vs0, hv0, _⟩ := s1.at_ i _ p es0 ep
    refine ⟨.inl ⟨rfl, vs0, .inl (.inl hv0)⟩, ?_⟩
    refine TX.first e1 s1 h1 (fun y S' e => (hx y S' e).kp k1) fun y S2 vy H2 _ h2 s2 k2 e2 r2 => ?_
    cases y with
    | r j => cases h2
    | s ns => cases h2
    | k a x c d => cases h2
    | t a1 a2 a3 a4 a5 => cases h2
    | d d =>
    dsimp only at h2
    split at h2
    · rename_i ds e3
      split at h2
      · rename_i hz
        cases h2
        obtain ⟨vs, hv, iv⟩ := s2.at_ i _ p e3 ep
        refine ⟨p, vs, vy, rfl, rfl, hv, by rw [iv.len]; exact hz, ?_⟩
        have kk : Kp f H2 (upd H2 p (.lst (vs ++ [vy]))) := Kp.put ep
        exact hq _ _ (s2.put ep ⟨_, upd_same, (iv.keep kk.q (Gr.refl _ _)).app (.cons (Is.keep kk.q (Gr.refl _ _) r2) .nil)⟩) ((k1.trans k2).trans kk) Is.non
      · cases h2
    · cases h2
/-- x[i] = v, x a list of the store -/
@[simp] def sSetIx (ev eo ei : Ex) (σ : Sg) (S : Sto) : Option Flow := Sm.bnd (ev σ S) fun v S1 => Sm.bnd (eo σ S1) fun o S2 => Sm.bnd (ei σ S2) fun i S3 => match v, o, i with
  | .d d, .r j, .d (.int k) => match S3[j]? with
    | some (.lst ds) => (ixN ds.length k).map fun n => .nx σ (S3.set j (.lst (ds.set n d)))
    | _ => none
  | _, _, _ => none
theorem ds_setIx {i : Expr} {ei ev : Ex} {tpos : Pos} {e : Expr} (he : DE X W e ev) (ho : DE X W o eo) (hi : DE X W i ei)
    (h0 : ∀ v, assign (.Subscript o i tpos) X.env v = (do
      let ov ← holding [v] (eval o X.env)
      let iv ← holding [v, ov] (eval i X.env)
      standAt tpos
      holding [v, ov, iv] (setItem ov iv v)
      release [v, ov, iv] []) := by intro _; rfl)
    (hs : swapsWithSole [.Subscript o i tpos] e pos.line X.env = pure false := by rfl) (hw : swappedStores [.Subscript o i tpos] e X.env = pure none := by rfl)
    (h1 : (assignEach [.Subscript o i tpos] X.env).map (·.2) = [assign (.Subscript o i tpos) X.env] := by rfl) : DS X W (.Assign [.Subscript o i tpos] e pos) (sSetIx ev eo ei) :=
  ps_imp (ps_asg he (pg_sub ho hi set_list h0) hs hw h1) fun D σV H ⟨f, σ, S, r, hE, hS, hr, hf⟩ => by
    refine TX.stm hE hS hr hf fun v S1 u H1 h1 f1 s1 k1 e1 r1 => ?_
    refine TX.stm e1 s1 h1 f1 fun x S2 vo H2 h2 f2 s2 k2 e2 r2 => ?_
    refine TX.stm e2 s2 h2 f2 fun y S3 vi H3 h3 f3 s3 k3 e3 r3 => ?_
    split at h3
    · rename_i d j k
      split at h3
      · rename_i ds eS
        cases en : ixN ds.length k with
        | none => rw [en] at h3; cases h3
        | some n =>
        rw [en] at h3
        cases h3
        obtain ⟨p, ep, rfl⟩ := r2
        cases r3
        obtain ⟨vs, hv, iv⟩ := s3.at_ j _ p eS ep
        have kk : Kp f H3 (upd H3 p (.lst (vs.set n u))) := Kp.put ep
        have s4 : StoR X.K f (S3.set j (.lst (ds.set n d))) (upd H3 p (.lst (vs.set n u))) := s3.put ep ⟨_, upd_same, (iv.keep kk.q (Gr.refl _ _)).set n (Is.keep kk.q (Gr.refl _ _) ((SvR.kp (x := .d d) r1 k2).kp k3))⟩
        refine ⟨p, vs, k, n, rfl, rfl, hv, by rw [iv.len]; exact en, ?_⟩
        exact ReS.now (f3.kp s4 kk) s4 (e3.kp kk)
      · cases h3
    · cases h3

/-! ## what is walked -/
/-- a list or a tuple, whichever -/
def iSeq (K : PySem.W.Frag) (t : TE) : TI := fun σ H R => t σ H fun x H1 => ∃ a, x = .ref a ∧ ((∃ xs, SqL K H1 a xs ∧ R (Itl K a) H1) ∨ (∃ xs, SqT K H1 a xs ∧ R (Itt K a) H1))
theorem pi_seq {X : Cx} {tg l : Expr} {t : TE} (hl : PE X l t) : PI X tg l (iSeq X.K t) := by
  refine ⟨fun pins s σ H R I h => thn (hl.run pins s σ H _ I h) fun v s1 ⟨x, H1, I1, r1, a, ex, q1⟩ => ?_⟩
  subst ex
  cases r1
  have mine : ∀ b ∈ [s1.heap.objs.size], FpOk X pins H1 b := fun b hb => by
    have eb : b = s1.heap.objs.size := by simpa using hb
    rw [eb]
    exact I1.fpOk (Nat.le_refl _) (I1.hok.fresh (Nat.le_refl _))
  have kept : ∀ ob : Obj, Inv X pins σ H1 { s1 with heap := s1.heap.push ob } := fun ob => I1.kept (t' := s1.toks) fun b u e => Heap.get?_push_of_some _ e
  rcases q1 with ⟨xs, hq, q⟩ | ⟨xs, hq, q⟩
  · obtain ⟨its, rv, pl, hz⟩ := I1.list hq
    exact wpAny_pyIter_list pl.isList ⟨_, [s1.heap.objs.size], _, _, H1, rfl, kept _, turn_list a _, ⟨_, Heap.get?_push_size _ rfl, rfl, rfl⟩, mine, q⟩
  · obtain ⟨its, rv, pl, hz⟩ := I1.tuple hq
    exact wpAny_pyIter_tuple (show s1.heap.IsTuple a its.toArray from pl) ⟨_, [s1.heap.objs.size], _, _, H1, rfl, kept _, turn_tuple a _, ⟨_, Heap.get?_push_size _ rfl, rfl, rfl⟩, mine, q⟩
@[simp] def wSeqV (x : SV) (S : Sto) : Option Wk := match x with
  | .d (.list ds) => some ⟨ds, none⟩
  | .d (.tuple ds) => some ⟨ds, none⟩
  | .r i => match S[i]? with
    | some (.lst ds) => some ⟨ds, some (i, ds)⟩
    | _ => none
  | .s ns => some ⟨ns.map .int, none⟩
  | _ => none
@[simp] def wSeq (e : Ex) (σ : Sg) (S : Sto) : Option (Res Wk) := Res.bnd (e σ S) fun x S1 => (wSeqV x S1).map fun w => .ok w S1
theorem walks_lst {X : Cx} {f : Ow} {H : Hp} {a : Addr} {xs : List V} {ds : List PyData} {own : Option (Nat × List PyData)}
    (hl : ∀ (f' : Ow) (S : Sto) (H' : Hp), Kq f H H' → Gr f f' H → Pf f f' → StoR X.K f' S H' → gdOk own S → ∃ ys, SqL X.K H' a ys ∧ IsAll X.K f' H' ys ds) (hK : ∀ H' ys zs, SqL X.K H' a ys → SqL X.K H' a zs → True) : Walks X f H (Itl X.K a) ⟨ds, own⟩ := by
  refine ⟨fun i d f' S H' hd k g p s o => ?_, fun i f' S H' hi k g p s o => ?_⟩
  · obtain ⟨ys, h1, h2⟩ := hl f' S H' k g p s o
    obtain ⟨v, hv, iv⟩ := h2.get hd
    refine ⟨⟨ys, v, h1, hv⟩, fun x H'' ⟨e, hx⟩ => ?_⟩
    subst e
    have := hx ys h1
    rw [hv] at this
    cases this
    exact ⟨s, Kp.refl _ _, iv⟩
  · obtain ⟨ys, h1, h2⟩ := hl f' S H' k g p s o
    exact ⟨ys, h1, by rw [h2.len]; exact hi⟩
theorem walks_tup {X : Cx} {f : Ow} {H : Hp} {a : Addr} {xs : List V} {ds : List PyData} (h1 : LT X.K f H a xs) (h2 : IsAll X.K f H xs ds) : Walks X f H (Itt X.K a) ⟨ds, none⟩ := by
  refine ⟨fun i d f' S H' hd k g p s o => ?_, fun i f' S H' hi k g p s o => ?_⟩
  · obtain ⟨v, hv, iv⟩ := (h2.keep k g).get hd
    refine ⟨⟨xs, v, (h1.keep k g).sq, hv⟩, fun x H'' ⟨e, hx⟩ => ?_⟩
    subst e
    have := hx xs (h1.keep k g).sq
    rw [hv] at this
    cases this
    exact ⟨s, Kp.refl _ _, iv⟩
  · exact ⟨xs, (h1.keep k g).sq, by rw [h2.len]; exact hi⟩
theorem di_seq {tg l : Expr} {e : Ex} (hl : DE X W l e) : DI X W tg l (wSeq e) :=
  pi_imp (pi_seq hl) fun σV H R ⟨f, σ, S, r, hE, hS, hr, hq⟩ => by
    refine TX.first hE hS hr (fun x S' e => by subst e; exact hq) fun x S1 vx H1 _ h1 s1 k1 e1 r1 => ?_
    unfold wSeqV at h1
    split at h1
    · cases h1
      cases r1 with
      | @lst a xs ds g1 g2 =>
      exact ⟨a, rfl, .inl ⟨xs, g1.sq, hq _ H1 s1 k1 (walks_lst (xs := xs) (fun f' S H' k g p s o => ⟨xs, (g1.keep k g).sq, g2.keep k g⟩) fun _ _ _ _ _ => trivial)⟩⟩
    · cases h1
      cases r1 with
      | @tup a xs ds g1 g2 => exact ⟨a, rfl, .inr ⟨xs, g1.sq, hq _ H1 s1 k1 (walks_tup g1 g2)⟩⟩
    · rename_i i _
      split at h1
      · rename_i ds e0
        cases h1
        obtain ⟨a, ea, rfl⟩ := r1
        obtain ⟨vs, g1, g2⟩ := s1.at_ i _ a e0 ea
        refine ⟨a, rfl, .inl ⟨vs, .inl (.inl g1), hq _ H1 s1 k1 (walks_lst (xs := vs) (fun f' S H' k g p s o => ?_) fun _ _ _ _ _ => trivial)⟩⟩
        obtain ⟨ys, g3, g4⟩ := s.at_ i _ a (show S[i]? = some (.lst ds) from o) (p i a ea)
        exact ⟨ys, .inl (.inl g3), g4⟩
      · cases h1
    · rename_i ns _
      cases h1
      obtain ⟨a, rfl, g1⟩ := r1
      exact ⟨a, rfl, .inl ⟨_, g1.sq, hq _ H1 s1 k1 (walks_lst (xs := ns.map V.int) (fun f' S H' k g p s o => ⟨_, (g1.keep k g).sq, IsAll.of_ints ns⟩) fun _ _ _ _ _ => trivial)⟩⟩
    · cases h1
/-- range(j), range(i, j) -/
def upTo (lo : Int) (n : Nat) : List PyData := (List.range n).map fun (k : Nat) => .int (lo + (k : Int))
def small62 (i : Int) : Prop := -4611686018427387904 ≤ i ∧ i < 4611686018427387904
noncomputable instance (i : Int) : Decidable (small62 i) := Classical.propDecidable _
@[simp] noncomputable def wRng1 (e : Ex) (σ : Sg) (S : Sto) : Option (Res Wk) := Res.bnd (e σ S) fun x S1 => match x with
  | .d (.int j) => if small62 j then some (.ok ⟨upTo 0 j.toNat, none⟩ S1) else none
  | _ => none
@[simp] noncomputable def wRng2 (a b : Ex) (σ : Sg) (S : Sto) : Option (Res Wk) := Res.bnd (a σ S) fun x S1 => Res.bnd (b σ S1) fun y S2 => match x, y with
  | .d (.int i), .d (.int j) => if small62 i ∧ small62 j then some (.ok ⟨upTo i (j - i).toNat, none⟩ S2) else none
  | _, _ => none
theorem walks_rng {X : Cx} {f : Ow} {H : Hp} {lo : Int} {n : Nat} : Walks X f H (Itr lo n) ⟨upTo lo n, none⟩ := by
  refine ⟨fun i d f' S H' hd k g p s o => ?_, fun i f' S H' hi k g p s o => ?_⟩
  · have hi : i < n := by
      have := (List.getElem?_eq_some_iff.mp hd).1
      simpa [upTo] using this
    refine ⟨hi, fun x H'' ⟨e, hx⟩ => ?_⟩
    subst e hx
    have : d = .int (lo + (i : Int)) := by
      have h : (upTo lo n)[i]? = some d := hd
      unfold upTo at h
      rw [List.getElem?_map, List.getElem?_range hi] at h
      exact (Option.some.inj h).symm
    subst this
    exact ⟨s, Kp.refl _ _, Is.int _⟩
  · have hi : (upTo lo n).length ≤ i := hi
    have hi : n ≤ i := by simpa [upTo] using hi
    exact hi
theorem small62_pow {i : Int} (h : small62 i) : -(2 ^ 62) ≤ i ∧ i < 2 ^ 62 := by
  have e : (2 : Int) ^ 62 = 4611686018427387904 := by decide
  rw [e]
  exact h
theorem di_rng1 {tg : Expr} (hm : X.mg "range" = none) (ha : DE X W a ea) (hg : Gl X "range" := by rfl) (hs : starEach [a] X.env = [(false, eval a X.env)] := by rfl) : DI X W tg (.Call (.Name "range" p0) [a] [] pos) (wRng1 ea) :=
  pi_imp (pi_range1 hg hm (pa_cons ha pa_nil hs) hs) fun σV H R ⟨f, σ, S, r, hE, hS, hr, hq⟩ => by
    refine TX.first hE hS hr (fun x S' e => by subst e; exact hq) fun x S1 vx H1 _ h1 s1 k1 e1 r1 => ?_
    split at h1
    · split at h1
      · rename_i hz
        cases h1
        cases r1
        have := small62_pow hz
        exact ⟨_, rfl, this.1, this.2, hq _ H1 s1 k1 walks_rng⟩
      · cases h1
    · cases h1
theorem di_rng2 {tg : Expr} (hm : X.mg "range" = none) (ha : DE X W a ea) (hb : DE X W b eb) (hg : Gl X "range" := by rfl) (hs : starEach [a, b] X.env = [(false, eval a X.env), (false, eval b X.env)] := by rfl) (hs2 : starEach [b] X.env = [(false, eval b X.env)] := by rfl) : DI X W tg (.Call (.Name "range" p0) [a, b] [] pos) (wRng2 ea eb) :=
  pi_imp (pi_range2 hg hm (pa_cons ha (pa_cons hb pa_nil hs2) (by rw [hs, hs2])) hs hs2) fun σV H R ⟨f, σ, S, r, hE, hS, hr, hq⟩ => by
    have hx : ∀ x S', r = .exc x S' → XS X W f σV H x S' := fun x S' e => by subst e; exact hq
    refine TX.first hE hS hr hx fun x S1 vx H1 _ h1 s1 k1 e1 r1 => ?_
    refine TX.first e1 s1 h1 (fun y S' e => (hx y S' e).kp k1) fun y S2 vy H2 _ h2 s2 k2 e2 r2 => ?_
    split at h2
    · split at h2
      · rename_i hz
        cases h2
        cases r1
        cases r2
        have h3 := small62_pow hz.1
        have h4 := small62_pow hz.2
        exact ⟨_, _, rfl, ⟨h3.1, h3.2, h4.1, h4.2⟩, hq _ H2 s2 (k1.trans k2) walks_rng⟩
      · cases h2
    · cases h2
/-- zip of two lists, of two tuples -/
def zipD : List PyData → List PyData → List PyData
  | x :: xs, y :: ys => .tuple [x, y] :: zipD xs ys
  | _, _ => []
theorem zipD_len : ∀ (xs ys : List PyData), (zipD xs ys).length = min xs.length ys.length
  | [], _ => by simp [zipD]
  | _ :: _, [] => by simp [zipD]
  | x :: xs, y :: ys => by simp [zipD, zipD_len xs ys]
theorem zipD_get : ∀ {xs ys : List PyData} {i : Nat} {d : PyData}, (zipD xs ys)[i]? = some d → ∃ x y, xs[i]? = some x ∧ ys[i]? = some y ∧ d = .tuple [x, y]
  | [], _, _, _, h => by simp [zipD] at h
  | _ :: _, [], _, _, h => by simp [zipD] at h
  | x :: xs, y :: ys, 0, d, h => by simp [zipD] at h; exact ⟨x, y, rfl, rfl, h.symm⟩
  | x :: xs, y :: ys, i + 1, d, h => by
    have h : (zipD xs ys)[i]? = some d := by simpa [zipD] using h
    obtain ⟨a, b, h1, h2, h3⟩ := zipD_get h
    exact ⟨a, b, by simpa using h1, by simpa using h2, h3⟩
@[simp] def wZip (a b : Ex) (σ : Sg) (S : Sto) : Option (Res Wk) := Res.bnd (a σ S) fun x S1 => Res.bnd (b σ S1) fun y S2 => match x, y with
  | .d (.list xs), .d (.list ys) => some (.ok ⟨zipD xs ys, none⟩ S2)
  | .d (.tuple xs), .d (.tuple ys) => some (.ok ⟨zipD xs ys, none⟩ S2)
  | _, _ => none
theorem di_zip {elts : List Expr} {kk : Nat} {tpos : Pos} (hm : X.mg "zip" = none) (ha : DE X W a ea) (hb : DE X W b eb) (hg : Gl X "zip" := by rfl)
    (hs : starEach [a, b] X.env = (false, eval a X.env) :: starEach [b] X.env := by rfl) (hs2 : starEach [b] X.env = (false, eval b X.env) :: starEach [] X.env := by rfl) (hpl : (backTo pos (starEach [b] X.env)).any (·.1) = false := by rfl) : DI X W (.Tuple elts kk tpos) (.Call (.Name "zip" p0) [a, b] [] pos) (wZip ea eb) :=
  pi_imp (RZ.pi_zipA hg hm (pa_cons ha (pa_cons hb pa_nil hs2) hs) hs hpl) fun σV H R ⟨f, σ, S, r, hE, hS, hr, hq⟩ => by
    have hx : ∀ x S', r = .exc x S' → XS X W f σV H x S' := fun x S' e => by subst e; exact hq
    refine TX.first hE hS hr hx fun x S1 vx H1 _ h1 s1 k1 e1 r1 => ?_
    refine TX.first e1 s1 h1 (fun y S' e => (hx y S' e).kp k1) fun y S2 vy H2 _ h2 s2 k2 e2 r2 => ?_
    split at h2
    · cases h2
      have r1 := SvR.kp r1 k2
      cases r1 with
      | @lst a xs ds g1 g2 =>
      cases r2 with
      | @lst b ys es g3 g4 =>
      refine ⟨a, b, xs, ys, rfl, .inl ⟨g1.sq, g3.sq, hq _ H2 s2 (k1.trans k2) ⟨fun i d f' S H' hd k g p s o => ?_, fun i f' S H' hi k g p s o => ?_⟩⟩⟩
      · obtain ⟨d1, d2, e1, e2, rfl⟩ := zipD_get hd
        obtain ⟨v1, hv1, iv1⟩ := (g2.keep k g).get e1
        obtain ⟨v2, hv2, iv2⟩ := (g4.keep k g).get e2
        refine ⟨⟨xs, ys, v1, v2, (g1.keep k g).sq, (g3.keep k g).sq, hv1, hv2⟩, fun x H'' ⟨T, x1, x2, ex, nT, eH, f1, f2⟩ => ?_⟩
        subst ex eH
        have q1 := f1 xs (g1.keep k g).sq
        have q2 := f2 ys (g3.keep k g).sq
        rw [hv1] at q1
        rw [hv2] at q2
        cases q1
        cases q2
        exact ⟨s.laid nT, Kp.new nT, Is.tup (.inl ⟨.inl upd_same, s.free nT⟩) (.cons (Is.keep (Kp.new nT).q (Gr.refl _ _) iv1) (.cons (Is.keep (Kp.new nT).q (Gr.refl _ _) iv2) .nil))⟩
      · have hi : (zipD _ _).length ≤ i := hi
        rw [zipD_len] at hi
        exact ⟨xs, ys, (g1.keep k g).sq, (g3.keep k g).sq, by rw [g2.len, g4.len]; omega⟩
    · cases h2
      have r1 := SvR.kp r1 k2
      cases r1 with
      | @tup a xs ds g1 g2 =>
      cases r2 with
      | @tup b ys es g3 g4 =>
      refine ⟨a, b, xs, ys, rfl, .inr ⟨g1.sq, g3.sq, hq _ H2 s2 (k1.trans k2) ⟨fun i d f' S H' hd k g p s o => ?_, fun i f' S H' hi k g p s o => ?_⟩⟩⟩
      · obtain ⟨d1, d2, e1, e2, rfl⟩ := zipD_get hd
        obtain ⟨v1, hv1, iv1⟩ := (g2.keep k g).get e1
        obtain ⟨v2, hv2, iv2⟩ := (g4.keep k g).get e2
        refine ⟨⟨xs, ys, v1, v2, (g1.keep k g).sq, (g3.keep k g).sq, hv1, hv2⟩, fun x H'' ⟨T, x1, x2, ex, nT, eH, f1, f2⟩ => ?_⟩
        subst ex eH
        have q1 := f1 xs (g1.keep k g).sq
        have q2 := f2 ys (g3.keep k g).sq
        rw [hv1] at q1
        rw [hv2] at q2
        cases q1
        cases q2
        exact ⟨s.laid nT, Kp.new nT, Is.tup (.inl ⟨.inl upd_same, s.free nT⟩) (.cons (Is.keep (Kp.new nT).q (Gr.refl _ _) iv1) (.cons (Is.keep (Kp.new nT).q (Gr.refl _ _) iv2) .nil))⟩
      · have hi : (zipD _ _).length ≤ i := hi
        rw [zipD_len] at hi
        exact ⟨xs, ys, (g1.keep k g).sq, (g3.keep k g).sq, by rw [g2.len, g4.len]; omega⟩
    · cases h2
/-- t[lo:hi] of a tuple -/
def cutD (ds : List PyData) (lo hi : Option Int) : List PyData := (ds.drop (HT.sIx ds.length 0 lo)).take (HT.sIx ds.length ds.length hi - HT.sIx ds.length 0 lo)
theorem cut_is {K : PySem.W.Frag} {f : Ow} {H : Hp} {xs : List V} {ds : List PyData} (h : IsAll K f H xs ds) (lo hi : Option Int) : IsAll K f H (cutV xs lo hi) (cutD ds lo hi) := by
  unfold cutV cutD
  rw [h.len]
  exact (h.drop _).take _
end
end Z
set_option maxRecDepth 100000
set_option maxHeartbeats 1000000
namespace Z
open PySem PySem.Spec PyProof.Rows L2

/-! ## the law's own call -/
/-- the tables of code objects that a law starts with: a lambda's name, the code object of its maker, the table -/
abbrev Tbs := List (Str × Addr × Addr)
@[simp] def tabS (cs : Tbs) : Sto := cs.map fun p => .tab p.1 p.2.2
structure TbsOk (K : PySem.W.Frag) (cs : Tbs) (h : Heap) : Prop where
  at_ : ∀ p ∈ cs, h.get? p.2.2 = some { cls := .none, data := .fields #[] }
  no : ∀ p ∈ cs, K.lookup p.2.2 = none
  nd : (cs.map (·.2.2)).Nodup
  hd : ∀ p ∈ cs, PySem.W.CodeHd h p.2.1 p.2.2
section
variable {P : Program} {w : World} {K : PySem.W.Frag} {mg mb : Str → Option Value} {k : Nat} {fa a : Addr} {g : Fn} {s₁ : Shared} {vs : List Value} {ns : List Int} {cs : Tbs}
theorem law_at (hK : K.In s₁.heap) (hN : s₁.heap.Ns mainGlobals mg) (hB : s₁.heap.Ns builtinsNs mb) (hBB : ∀ x : Str, x ≠ "__name__" → mb x = bootBuiltins x) (hL : s₁.heap.NoLimit) (hG : s₁.gens = #[]) (hM : ∃ mm, s₁.heap.Ns sysModules mm) (hKM : K.lookup sysModules = none)
    (hT : TbsOk K cs s₁.heap)
    (hbm : ∃ (bm : Addr) (ob : Obj), mg "__builtins__" = some (.ref bm) ∧ bm ≠ builtinsNs ∧ s₁.heap.get? bm = some ob ∧ ob.cls = .type "module" ∧ ob.dict = some builtinsNs ∧ ob.data = .plain)
    (hobj : s₁.heap.get? a = some { cls := .type "list", data := .seq vs.toArray }) (hi : IntsAre vs ns) (hz : ns.length ≤ sizeLine) (hr : Room k callerA) (hfa : mg "law" = some (.ref fa))
    (F : ∀ base : Heap, K.In base → base.Ns mainGlobals mg → (∀ p ∈ cs, LamX.TabB base mg p.2.1 p.2.2) → FnG P w K mg base k "law" g) (hg : g [.s ns] (tabS cs) = some (.ok (.d (.bool true)) (tabS cs))) :
    codeAny (model P w) callerA (.call (.ref fa) ⟨[.ref a], []⟩) (fun r s' => r = .ok (.ret (.bool true)) ∧ OldK s₁.heap s'.heap ∧ s'.os = s₁.os ∧ AllBare s'.gens) s₁ := by
  have lenV : vs.length = ns.length := by
    have : ∀ {us : List Value} {ms : List Int}, IntsAre us ms → us.length = ms.length := by
      intro us ms h
      induction h with
      | nil => rfl
      | cons _ _ _ ih => simp [ih]
    exact this hi
  have relV : Vals (ns.map V.int) vs := by
    have : ∀ {us : List Value} {ms : List Int}, IntsAre us ms → Vals (ms.map V.int) us := by
      intro us ms h
      induction h with
      | nil => exact .nil
      | cons n t _ ih => exact .cons ⟨t, rfl⟩ ih
    exact this hi
  obtain ⟨mm, om, esm, epm, hom, hdm, _⟩ := hM
  have isT : ∀ b : Addr, b ∈ cs.map (·.2.2) → s₁.heap.get? b = some { cls := .none, data := .fields #[] } := fun b hb => by
    obtain ⟨p, hp, e⟩ := List.mem_map.mp hb
    rw [← e]
    exact hT.at_ p hp
  have memT : ∀ p ∈ cs, p.2.2 ∈ cs.map (·.2.2) := fun p hp => List.mem_map.mpr ⟨p, hp, rfl⟩
  have aT : a ∉ cs.map (·.2.2) := fun z => by
    have q := isT a z
    rw [hobj] at q
    have z' : Data.seq vs.toArray _ = Data.fields #[] := congrArg Obj.data (Option.some.inj q)
    cases z'
  have mT : sysModules ∉ cs.map (·.2.2) := fun z => by
    have q := isT _ z
    rw [hom] at q
    have z' : om.data = Data.fields #[] := congrArg Obj.data (Option.some.inj q)
    rw [hdm] at z'
    cases z'
  have aM : a ≠ sysModules := fun z => by
    rw [← z, hobj] at hom
    have z' : Data.seq vs.toArray _ = om.data := congrArg Obj.data (Option.some.inj hom)
    rw [hdm] at z'
    cases z'
  -- what is tracked: the modules' dict, the tables, the script (unless it is the module's own)
  have main : ∀ H : Hp, (∀ p ∈ cs, H p.2.2 = some (.tbl #[])) → H sysModules = some (.frz om (.ext fun _ => True)) → (∀ b, H b = none ∨ b ∈ cs.map (·.2.2) ∨ ∃ o u, H b = some (.frz o u)) → (∀ b, H b ≠ none → b = a ∨ b = sysModules ∨ b ∈ cs.map (·.2.2)) → HOk P w H s₁.heap → LS K ⟨cs.map (·.2.2), []⟩ H a (ns.map V.int) → (H a ≠ none → K.lookup a = none) →
      codeAny (model P w) callerA (.call (.ref fa) ⟨[.ref a], []⟩) (fun r s' => r = .ok (.ret (.bool true)) ∧ OldK s₁.heap s'.heap ∧ s'.os = s₁.os ∧ AllBare s'.gens) s₁ := by
    intro H hHT hHM hO hA hok hls hKa
    have base_of : ∀ {b : Addr} {o : Obj}, s₁.heap.get? b = some o → H b = none → (hidT s₁.heap H).get? b = some o := fun e n => hidT_get e n
    have noD : ∀ {b : Addr} {o : Obj}, s₁.heap.get? b = some o → b ≠ sysModules → (∀ vs n, o.data ≠ .seq vs n) → o.data ≠ .fields #[] → H b = none := fun {b o} e hb h1 h2 => by
      cases q : H b with
      | none => rfl
      | some u =>
        rcases hA b (by rw [q]; simp) with e' | e' | e'
        · rw [e', hobj] at e
          cases e
          exact (h1 _ _ rfl).elim
        · exact absurd e' hb
        · rw [isT b e'] at e
          cases e
          exact (h2 rfl).elim
    have noA : ∀ {b : Addr} {o : Obj} {es : Array DictEntry} {ep : Nat}, b ≠ sysModules → s₁.heap.get? b = some o → o.data = .dict es ep → H b = none := fun {b o es ep} hb e d => by
      refine noD e hb (fun vs n z => ?_) fun z => ?_
      · rw [d] at z
        cases z
      · rw [d] at z
        cases z
    have nsK : ∀ {b : Addr} {m : Str → Option Value}, b ≠ sysModules → s₁.heap.Ns b m → (hidT s₁.heap H).Ns b m := fun {b m} hb ⟨o, es, ep, e, d, r⟩ => ⟨o, es, ep, base_of e (noA hb e d), d, r⟩
    have inK : K.In (hidT s₁.heap H) := fun b o e => base_of (hK b o e) (by
      cases q : H b with
      | none => rfl
      | some u =>
        rcases hA b (by rw [q]; simp) with e' | e' | e'
        · rw [e'] at e q
          rw [hKa (by rw [q]; simp)] at e
          cases e
        · rw [e', hKM] at e
          cases e
        · obtain ⟨p, hp, ep⟩ := List.mem_map.mp e'
          rw [← ep, hT.no p hp] at e
          cases e)
    have hN2 : (hidT s₁.heap H).Ns mainGlobals mg := nsK (by decide) hN
    have lim : (hidT s₁.heap H).NoLimit := let ⟨mc, q1, q2⟩ := hL; ⟨mc, nsK (by decide) q1, q2⟩
    have TB : ∀ p ∈ cs, LamX.TabB (hidT s₁.heap H) mg p.2.1 p.2.2 := fun p hp => by
      have hTp := hT.at_ p hp
      refine ⟨?_, ?_, fun z => ?_⟩
      · obtain ⟨o, us, file, tf, flags, tg, inF, text, tt, e1, r1, r2, r3, r4, r5, r6, r7, r8, hne⟩ := hT.hd p hp
        refine ⟨o, us, file, tf, flags, tg, inF, text, tt, base_of e1 (noD e1 (fun z => ?_) (fun vs n z => ?_) fun z => ?_), r1, r2, r3, r4, r5, r6, r7, r8, hne⟩
        · rw [z, hom] at e1
          cases e1
          rw [hdm] at r2
          cases r2
        · rw [r2] at z
          cases z
        · rw [r2] at z
          cases z
          simp at r3
      · obtain ⟨bm, ob, b1, b2, b3, b4, b5, b6⟩ := hbm
        have nG : bm ≠ mainGlobals := fun q => by
          obtain ⟨o, es, ep, e, hd, _⟩ := hN
          rw [q, e] at b3
          cases b3
          rw [hd] at b6
          cases b6
        have nP : bm ≠ p.2.2 := fun q => by
          rw [q, hTp] at b3
          cases b3
          cases b6
        refine ⟨bm, ob, b1, b2, nG, nP, base_of b3 (noD b3 (fun z => ?_) (fun vs n z => ?_) fun z => ?_), b4, b5, b6⟩
        · rw [z, hom] at b3
          cases b3
          rw [hdm] at b6
          cases b6
        · rw [b6] at z
          cases z
        · rw [b6] at z
          cases z
      · obtain ⟨o, es, ep, e, hd, _⟩ := hN
        rw [z, hTp] at e
        cases e
        cases hd
    obtain ⟨f', hm, hk, run⟩ := (F _ inK hN2 TB).ex
    rw [hfa] at hm
    cases hm
    have env : Env0 P w K mg (hidT s₁.heap H) callerA [] s₁ H :=
      { frames := rfl, mod := { kin := inK, glob := hN2, blt := ⟨mb, nsK (by decide) hB, hBB⟩, nolimit := lim }, bs := fun b o e => of_hidT e, bsz := Nat.le_of_eq (hidT_size _ _), funs := trivial, frf := (fun b hb => (nomatch hb)), hok := hok, bare := .of_eq hG }
    have sto : StoR K ⟨cs.map (·.2.2), []⟩ (tabS cs) H := by
      refine ⟨by simp, hT.nd, fun i o b e1 e2 => ?_, (fun b m => nomatch m), (fun b m => nomatch m), mT, _, hHM⟩
      simp only [tabS] at e1
      have e2 : (cs.map (·.2.2))[i]? = some b := e2
      rw [List.getElem?_map] at e1 e2
      cases ec : cs[i]? with
      | none => rw [ec] at e1; cases e1
      | some p =>
        rw [ec] at e1 e2
        cases e1
        cases e2
        exact ⟨rfl, #[], hHT p (List.mem_of_getElem? ec), by simp [TriplesOk], fun pos cv z => by simp [codeAmong] at z⟩
    have pre : SpG K mg g [.ref a] H (fun v _ => v = .bl true) (fun _ _ _ => False) :=
      ⟨⟨cs.map (·.2.2), []⟩, tabS cs, [.s ns], _, sto, .cons ⟨a, rfl, hls⟩ .nil, hg, fun v H' _ _ r => by cases r; rfl⟩
    refine codeAny_mono (run callerA [] s₁ H [.ref a] [.ref a] _ _ hr rfl env (.cons rfl .nil) pre) fun r s' h => ?_
    rcases r with e | fl
    case ok =>
      cases fl with
      | ret u =>
        obtain ⟨v, H', os, bare, un, hok', rv, q⟩ := h
        have q : v = .bl true := q
        subst q
        cases rv
        have key : ∀ b o, b ∉ cs.map (·.2.2) → s₁.heap.get? b = some o → s'.heap.get? b = some o := fun b o nb e => by
          cases q : H b with
          | none => exact un.keep b o e q (by intro z; exact absurd (show b ∈ ([] : List Addr) from z) (by simp)) (by simp)
          | some u =>
            rcases hO b with z | z | ⟨ob, xs, z⟩
            · rw [q] at z; cases z
            · exact absurd z nb
            · have z2 := un.frzs b ob _ z
              obtain ⟨e1, _⟩ := hok b _ z
              obtain ⟨e2, _⟩ := hok' b _ z2
              rw [e] at e1; cases e1
              exact e2
        have grown : ∀ p ∈ cs, ∃ more : Array Value, s'.heap.get? p.2.2 = some { cls := .none, data := .fields more } := fun p hp => by
          obtain ⟨more, z⟩ := un.tbls p.2.2 #[] (hHT p hp)
          exact ⟨_, hok' p.2.2 _ z⟩
        refine ⟨rfl, ⟨fun b o e => ?_, fun b o e => ?_⟩, os, bare⟩
        · by_cases hb : b ∈ cs.map (·.2.2)
          · obtain ⟨p, hp, ep⟩ := List.mem_map.mp hb
            obtain ⟨more, hm⟩ := grown p hp
            rw [← ep] at e ⊢
            rw [hT.at_ p hp] at e
            cases e
            exact .inr (.inl ⟨((hT.hd p hp).tab (hT.at_ p hp)).isCodeTable, rfl, #[], more, rfl, by rw [Array.empty_append]; exact hm⟩)
          · exact .inl (key b o hb e)
        · by_cases hb : b ∈ cs.map (·.2.2)
          · obtain ⟨p, hp, ep⟩ := List.mem_map.mp hb
            obtain ⟨more, hm⟩ := grown p hp
            rw [← ep]
            exact ⟨_, hm⟩
          · exact ⟨o, key b o hb e⟩
      | next => exact h.elim
      | brk => exact h.elim
      | cont => exact h.elim
    case error =>
      obtain ⟨_, _, _, _, _, _, _, _, _, _, _, _, z⟩ := h
      exact z.elim
  cases eK : K.lookup a with
  | some o =>
    have e := hK a o eK
    rw [hobj] at e
    cases e
    refine main (fun b => if b = sysModules then some (.frz om (.ext fun _ => True)) else if b ∈ cs.map (·.2.2) then some (.tbl #[]) else none) (fun p hp => (if_neg (fun z => mT (by rw [← z]; exact memT p hp))).trans (if_pos (memT p hp))) (if_pos rfl) (fun b => ?_) (fun b z => ?_) (fun b u z => ?_) (.inr ⟨_, vs.toArray, _, eK, rfl, rfl, rfl, by rw [List.size_toArray, lenV]; exact hz, by simpa using relV⟩)
      fun z => absurd ((if_neg aM).trans (if_neg aT)) z
    · by_cases hb : b = sysModules
      · exact .inr (.inr ⟨_, _, if_pos hb⟩)
      · by_cases hb2 : b ∈ cs.map (·.2.2)
        · exact .inr (.inl hb2)
        · exact .inl ((if_neg hb).trans (if_neg hb2))
    · by_cases hb : b = sysModules
      · exact .inr (.inl hb)
      · by_cases hb2 : b ∈ cs.map (·.2.2)
        · exact .inr (.inr hb2)
        · exact absurd ((if_neg hb).trans (if_neg hb2)) z
    · by_cases hb : b = sysModules
      · have z' := (if_pos hb).symm.trans z
        cases z'
        rw [hb]
        exact ⟨hom, trivial, ⟨_, hom⟩, fun _ _ _ _ => trivial⟩
      · have z1 := (if_neg hb).symm.trans z
        by_cases hb2 : b ∈ cs.map (·.2.2)
        · have z' := (if_pos hb2).symm.trans z1
          cases z'
          exact isT b hb2
        · have z' := (if_neg hb2).symm.trans z1
          cases z'
  | none =>
    refine main (fun b => if b = a then some (.frz { cls := .type "list", data := .seq vs.toArray } (.lst (ns.map V.int))) else if b = sysModules then some (.frz om (.ext fun _ => True)) else if b ∈ cs.map (·.2.2) then some (.tbl #[]) else none)
      (fun p hp => (if_neg (fun z => aT (by rw [← z]; exact memT p hp))).trans ((if_neg (fun z => mT (by rw [← z]; exact memT p hp))).trans (if_pos (memT p hp)))) ((if_neg (Ne.symm aM)).trans (if_pos rfl)) (fun b => ?_) (fun b z => ?_) (fun b u z => ?_)
      (.inl ⟨.inr ⟨{ cls := .type "list", data := .seq vs.toArray }, if_pos rfl⟩, ⟨aT, fun m => nomatch m⟩⟩) fun _ => eK
    · by_cases ha : b = a
      · exact .inr (.inr ⟨_, _, if_pos ha⟩)
      · by_cases hb : b = sysModules
        · exact .inr (.inr ⟨_, _, (if_neg ha).trans (if_pos hb)⟩)
        · by_cases hb2 : b ∈ cs.map (·.2.2)
          · exact .inr (.inl hb2)
          · exact .inl ((if_neg ha).trans ((if_neg hb).trans (if_neg hb2)))
    · by_cases ha : b = a
      · exact .inl ha
      · by_cases hb : b = sysModules
        · exact .inr (.inl hb)
        · by_cases hb2 : b ∈ cs.map (·.2.2)
          · exact .inr (.inr hb2)
          · exact absurd ((if_neg ha).trans ((if_neg hb).trans (if_neg hb2))) z
    · by_cases ha : b = a
      · have z' := (if_pos ha).symm.trans z
        cases z'
        rw [ha]
        exact ⟨hobj, by rw [List.length_map]; exact hz, vs, _, relV, hobj⟩
      have z := (if_neg ha).symm.trans z
      by_cases hb : b = sysModules
      · have z' := (if_pos hb).symm.trans z
        cases z'
        rw [hb]
        exact ⟨hom, trivial, ⟨_, hom⟩, fun _ _ _ _ => trivial⟩
      · have z1 := (if_neg hb).symm.trans z
        by_cases hb2 : b ∈ cs.map (·.2.2)
        · have z' := (if_pos hb2).symm.trans z1
          cases z'
          exact isT b hb2
        · have z' := (if_neg hb2).symm.trans z1
          cases z'
end
/-- the tables of the program's defs are empty at the start -/
def TabsOf (q : Program) (mg : Str → Option Value) (h : Heap) : Prop := ∀ (x : Str) (a : Addr), ((recsOf q).any fun e => e.name == x) = true → mg x = some (.ref a) →
  ∃ o fd c P, h.get? a = some o ∧ o.data = .func fd ∧ fd.code = .ref c ∧ h.IsCode c P #[] ∧ h.TableAt c P #[]
/-- .. so for the def x that stands in K -/
theorem TabsOf.at {q : Program} {K : PySem.W.Frag} {mg : Str → Option Value} {h : Heap} {x : Str} {a c P : Addr} {o : Obj} {fd : FuncData} (T : TabsOf q mg h) (KX : K.In h) (hx : ((recsOf q).any fun e => e.name == x) = true) (hm : mg x = some (.ref a))
    (lk : K.lookup a = some o) (hd : o.data = .func fd) (hc : fd.code = .ref c) (hh : PySem.W.codeHdIn K c P = true) : h.get? P = some { cls := .none, data := .fields #[] } ∧ PySem.W.CodeHd h c P := by
  obtain ⟨o1, fd1, c1, P1, e1, e2, e3, e4, ⟨oc, vs, f1, f2, f3, f4⟩, f5⟩ := T x a hx hm
  have g1 := KX _ _ lk
  rw [g1] at e1
  cases e1
  rw [hd] at e2
  cases e2
  rw [hc] at e3
  cases e3
  have C := PySem.W.codeHd_of_K KX hh
  obtain ⟨o', us, file, tf, flags, tg, inF, text, tt, r0, r1, r2, r3, _⟩ := id C
  rw [r0] at f1
  cases f1
  rw [r2] at f3
  cases f3
  rw [r3] at f4
  cases f4
  exact ⟨f5, C⟩
theorem walk_g {l : PySem.W.OpenLaw} {n k : Nat} {q : Program} {loose : List Str} {XP : (Str → Option Value) → Heap → Prop} {YP : World → Heap → Prop} {d : DefRec} {K : Params → PySem.W.Frag}
    (hn : l.most = some n) (hn2 : n ≤ sizeLine) (hdf : d.params.defaults = []) (hdn : d.name = "law") (hr : Room k callerA) (hY : ∀ (w : World) (h : Heap), YP w h → (K w.params).In h) (hq : importsNone q = true) (hKM : ∀ w : World, (K w.params).lookup sysModules = none)
    (F : ∀ (w : World) (mg : Str → Option Value) (fa : Addr) (h : Heap), (K w.params).In h → h.Ns mainGlobals mg → mg d.name = some (.ref fa) → TabsOf q mg h →
      ∃ (cs : Tbs) (g : Fn), TbsOk (K w.params) cs h ∧ (∀ ns : List Int, ns.length ≤ n → g [.s ns] (tabS cs) = some (.ok (.d (.bool true)) (tabS cs))) ∧
        ∀ base : Heap, (K w.params).In base → base.Ns mainGlobals mg → (∀ p ∈ cs, LamX.TabB base mg p.2.1 p.2.2) → FnG l.prog w (K w.params) mg base k "law" g) :
    PySem.W.WalkO q loose XP YP l.row.toRowW d [] (fun f vs => PySem.call f vs) :=
  Att.attach_call hn hdf fun w s₀ s₁ mg mb fa o pm cd doc a vs ns G Y ho hd hcd hmg hobj hints hlen hgens => by
    have T : TabsOf q mg s₁.heap := fun x b hx hm => by
      obtain ⟨dL, hm1, hn1⟩ := List.any_eq_true.mp hx
      have hn2 : dL.name = x := beq_iff_eq.mp hn1
      obtain ⟨a', o', fd', c', P', h1, h2⟩ := G.T.tab dL hm1
      rw [hn2, hm] at h1
      cases h1
      exact ⟨o', fd', c', P', h2⟩
    obtain ⟨cs, g, hT, hg, hF⟩ := F w mg fa _ (hY w _ Y) G.T.g hmg T
    exact law_at (hY w _ Y) G.T.g G.T.b G.T.builtins G.T.nolimit hgens (let ⟨mm, z, _⟩ := (G.T.seer hq).mods; ⟨mm, z⟩) (hKM w) hT G.T.bmain hobj hints (Nat.le_trans hlen hn2) hr (by rw [← hdn]; exact hmg) hF (hg ns hlen)

/-! ## more targets -/
@[simp] def gTrip3 (a b c : Tg) (d : PyData) (σ : Sg) : Option Sg := match d with
  | .list [x, y, z] => ((a x σ).bind (b y)).bind (c z)
  | _ => none
theorem dg_trip3 {X : Cx} {pos : Pos} {e1 e2 e3 : Expr} {k : Nat} {g1 g2 g3 : Tg} {i1 i2 i3 : List Nat} (hc : X.calm = true) (h1 : DG X e1 g1 i1) (h2 : DG X e2 g2 i2) (h3 : DG X e3 g3 i3)
    (hs1 : (assignEach [e1, e2, e3] X.env).map (·.2) = assign e1 X.env :: (assignEach [e2, e3] X.env).map (·.2) := by rfl) (hs2 : (assignEach [e2, e3] X.env).map (·.2) = assign e2 X.env :: (assignEach [e3] X.env).map (·.2) := by rfl)
    (hs3 : (assignEach [e3] X.env).map (·.2) = assign e3 X.env :: (assignEach [] X.env).map (·.2) := by rfl)
    (hn : (assignEach [e1, e2, e3] X.env).length = 3 := by rfl) (hst : (assignEach [e1, e2, e3] X.env).findIdx? (·.1) = none := by rfl) : DG X (.Tuple [e1, e2, e3] k pos) (gTrip3 g1 g2 g3) (i1 ++ i2 ++ i3) :=
  pg_imp (pg_unl hc (pgs_cons h1 (pgs_cons h2 (pgs_cons h3 pgs_nil hs3) hs2) hs1) hn hst) fun v σV H Q ⟨f, σ, σ', d, hE, hv, hg, q⟩ => by
    unfold gTrip3 at hg
    split at hg
    · rename_i x y z
      cases hv with
      | @lst a xs _ ht ha =>
      cases ha with
      | @cons v1 vs1 _ _ h1' r1 =>
      cases r1 with
      | @cons v2 vs2 _ _ h2' r2 =>
      cases r2 with
      | @cons v3 vs3 _ _ h3' r3 =>
      cases r3
      cases hg1 : g1 x σ with
      | none => rw [hg1] at hg; cases hg
      | some σ1 =>
        rw [hg1] at hg
        have hg : (g2 y σ1).bind (g3 z) = some σ' := hg
        cases hg2 : g2 y σ1 with
        | none => rw [hg2] at hg; cases hg
        | some σ2 =>
          rw [hg2] at hg
          have hg : g3 z σ2 = some σ' := hg
          exact ⟨a, _, rfl, ht.sq, rfl, v1, [v2, v3], rfl, ⟨f, σ, σ1, x, hE, h1', hg1, fun σV1 e1 a1 => ⟨v2, [v3], rfl, ⟨f, σ1, σ2, y, e1, h2', hg2, fun σV2 e2 a2 => ⟨v3, [], rfl, ⟨f, σ2, σ', z, e2, h3', hg, fun σV3 e3 a3 => ⟨rfl, q σV3 e3 ((a1.trans a2).trans a3)⟩⟩⟩⟩⟩⟩⟩
    · cases hg
end Z
set_option maxRecDepth 100000
set_option maxHeartbeats 1000000
namespace Z
open PySem PySem.Spec PyProof.Rows L2

/-! ## short words -/
instance (n : String) : Decidable (asked n) := by unfold asked; exact inferInstance
theorem de_globI {X : Cx} {W : WX} {pos : Pos} {x : Str} {i : Int} {t : Tok} (hm : X.mg x = some (.int i t)) (hg : Gl X x := by rfl) (hd : (x == ("__debug__" : Str)) = false := by decide) : DE X W (.Name x pos) (eLit (.int i)) := de_glob hg hm (v := .int i) ⟨t, rfl⟩ (fun _ _ => Is.int i) hd
/-- the names that are built in still are -/
structure NB (mg : Str → Option Value) : Prop where
  len : mg "len" = none
  range : mg "range" = none
  max : mg "max" = none
  min : mg "min" = none
  abs : mg "abs" = none
  int : mg "int" = none
  bool : mg "bool" = none
  str : mg "str" = none
  tuple : mg "tuple" = none
  list : mg "list" = none
  dict : mg "dict" = none
  sum : mg "sum" = none
  all : mg "all" = none
  any : mg "any" = none
  repr : mg "repr" = none
  isinstance : mg "isinstance" = none
  zip : mg "zip" = none
  enumerate : mg "enumerate" = none
/-- int + int, or what is put together -/
@[simp] def pPlus : SV → SV → Sto → Option SV := fun x y S => match x, y with
  | .d (.int i), .d (.int j) => some (.d (.int (i + j)))
  | x, y => pCat x y S
@[simp] noncomputable def pTimes : SV → SV → Sto → Option SV := fun x y S => match x, y with
  | .d (.int i), .d (.int j) => if short i ∨ short j then some (.d (.int (i * j))) else none
  | x, y => pMulA x y S
section
variable {X : Cx} {W : WX} {k : Nat} {a b c o : Expr} {ea eb ec eo : Ex} {pos p0 p1 apos : Pos}
theorem de_plus (ha : DE X W a ea) (hb : DE X W b eb) : DE X W (.BinOp a .Add b pos) (eBin pPlus ea eb) := de_bin (OpR.or op_add (OpR.or (OpR.or op_catA op_cat) op_add_str)) (by
  intro f S H vx vy x y z Q hS rx ry hp hq
  unfold pPlus at hp
  split at hp
  · cases hp
    cases rx
    cases ry
    exact .inl ⟨_, _, rfl, rfl, hq _ H hS (Kp.refl _ _) (Is.int _)⟩
  · exact .inr (opk_cat f S H vx vy _ _ z Q hS rx ry hp hq)) ha hb
theorem de_times (ha : DE X W a ea) (hb : DE X W b eb) : DE X W (.BinOp a .Mult b pos) (eBin pTimes ea eb) := de_bin (OpR.or op_mul (OpR.or op_mulT op_rep)) (by
  intro f S H vx vy x y z Q hS rx ry hp hq
  unfold pTimes at hp
  split at hp
  · split at hp
    · rename_i h
      cases hp
      cases rx
      cases ry
      exact .inl ⟨_, _, rfl, rfl, h.imp short_pow short_pow, hq _ H hS (Kp.refl _ _) (Is.int _)⟩
    · cases hp
  · exact .inr (opk_mulA f S H vx vy _ _ z Q hS rx ry hp hq)) ha hb
theorem bt_max : bootBuiltins "max" = some (.builtin "max") := by decide +kernel
theorem bt_min : bootBuiltins "min" = some (.builtin "min") := by decide +kernel
theorem bt_abs : bootBuiltins "abs" = some (.builtin "abs") := by decide +kernel
theorem bt_int : bootBuiltins "int" = some (.type "int") := by decide +kernel
theorem bt_bool : bootBuiltins "bool" = some (.type "bool") := by decide +kernel
theorem bt_str : bootBuiltins "str" = some (.type "str") := by decide +kernel
theorem bt_tuple : bootBuiltins "tuple" = some (.type "tuple") := by decide +kernel
theorem bt_list : bootBuiltins "list" = some (.type "list") := by decide +kernel
theorem bt_dict : bootBuiltins "dict" = some (.type "dict") := by decide +kernel
theorem bt_sum : bootBuiltins "sum" = some (.builtin "sum") := by decide +kernel
theorem bt_all : bootBuiltins "all" = some (.builtin "all") := by decide +kernel
theorem bt_any : bootBuiltins "any" = some (.builtin "any") := by decide +kernel
theorem bt_repr : bootBuiltins "repr" = some (.builtin "repr") := by decide +kernel
theorem bt_len : bootBuiltins "len" = some (.builtin "len") := by decide +kernel
theorem da1 (ha : DE X W a ea) (hs : starEach [a] X.env = (false, eval a X.env) :: starEach [] X.env := by rfl) : DA X W [a] (esCons ea esNil) := da_cons ha da_nil hs
theorem da2 (ha : DE X W a ea) (hb : DE X W b eb) (hs : starEach [a, b] X.env = (false, eval a X.env) :: starEach [b] X.env := by rfl) (hs2 : starEach [b] X.env = (false, eval b X.env) :: starEach [] X.env := by rfl) : DA X W [a, b] (esCons ea (esCons eb esNil)) := da_cons ha (da_cons hb da_nil hs2) hs
section
variable (nb : NB X.mg)
@[simp] def eNeg (a : Ex) : Ex := eUn (fun x _ => match x with | .d (.int i) => some (.d (.int (-i))) | _ => none) a
theorem c_len (hm : X.mg "len" = none) (ha : DE X W a ea) (hg : Gl X "len" := by rfl) (h1 : starEach [a] X.env = (false, eval a X.env) :: starEach [] X.env := by rfl) (h2 : (backTo pos (starEach [] X.env)).any (·.1) = false := by rfl) : DE X W (.Call (.Name "len" p0) [a] [] pos) (eCa pLen (esCons ea esNil)) := de_callB call_len cak_len hg hm bt_len (da1 ha h1) (he := h1) (hpl := h2)
theorem c_abs (hm : X.mg "abs" = none) (ha : DE X W a ea) (hg : Gl X "abs" := by rfl) (h1 : starEach [a] X.env = (false, eval a X.env) :: starEach [] X.env := by rfl) (h2 : (backTo pos (starEach [] X.env)).any (·.1) = false := by rfl) : DE X W (.Call (.Name "abs" p0) [a] [] pos) (eCa pAbs (esCons ea esNil)) := de_callB call_abs cak_i1 hg hm bt_abs (da1 ha h1) (he := h1) (hpl := h2)
theorem c_int (hm : X.mg "int" = none) (ha : DE X W a ea) (hg : Gl X "int" := by rfl) (h1 : starEach [a] X.env = (false, eval a X.env) :: starEach [] X.env := by rfl) (h2 : (backTo pos (starEach [] X.env)).any (·.1) = false := by rfl) : DE X W (.Call (.Name "int" p0) [a] [] pos) (eCa pInt (esCons ea esNil)) := de_callTy call_int1 cak_int hg hm bt_int (da1 ha h1) (he := h1) (hpl := h2)
theorem c_str (hm : X.mg "str" = none) (ha : DE X W a ea) (hg : Gl X "str" := by rfl) (h1 : starEach [a] X.env = (false, eval a X.env) :: starEach [] X.env := by rfl) (h2 : (backTo pos (starEach [] X.env)).any (·.1) = false := by rfl) : DE X W (.Call (.Name "str" p0) [a] [] pos) (eCa pStr (esCons ea esNil)) := de_callTy (CallR.or call_str_int SkE.call_str_str) cak_str hg hm bt_str (da1 ha h1) (he := h1) (hpl := h2)
theorem c_list (hm : X.mg "list" = none) (ha : DE X W a ea) (hg : Gl X "list" := by rfl) (h1 : starEach [a] X.env = (false, eval a X.env) :: starEach [] X.env := by rfl) (h2 : (backTo pos (starEach [] X.env)).any (·.1) = false := by rfl) : DE X W (.Call (.Name "list" p0) [a] [] pos) (eCa pListOf (esCons ea esNil)) := de_callTy call_list_of cak_listof hg hm bt_list (da1 ha h1) (he := h1) (hpl := h2)
theorem c_tuple (hm : X.mg "tuple" = none) (ha : DE X W a ea) (hg : Gl X "tuple" := by rfl) (h1 : starEach [a] X.env = (false, eval a X.env) :: starEach [] X.env := by rfl) (h2 : (backTo pos (starEach [] X.env)).any (·.1) = false := by rfl) : DE X W (.Call (.Name "tuple" p0) [a] [] pos) (eCa pTupOf (esCons ea esNil)) := de_callTy call_tuple_of cak_tupof hg hm bt_tuple (da1 ha h1) (he := h1) (hpl := h2)
theorem c_sum (G : Gd X W k) (hm : X.mg "sum" = none) (ha : DE X W a ea) (hg : Gl X "sum" := by rfl) (h1 : starEach [a] X.env = (false, eval a X.env) :: starEach [] X.env := by rfl) (h2 : (backTo pos (starEach [] X.env)).any (·.1) = false := by rfl) : DE X W (.Call (.Name "sum" p0) [a] [] pos) (eCa pSum (esCons ea esNil)) := de_callB (cr_sum G.calm) cak_sum hg hm bt_sum (da1 ha h1) (he := h1) (hpl := h2)
theorem c_all (G : Gd X W k) (hm : X.mg "all" = none) (ha : DE X W a ea) (hg : Gl X "all" := by rfl) (h1 : starEach [a] X.env = (false, eval a X.env) :: starEach [] X.env := by rfl) (h2 : (backTo pos (starEach [] X.env)).any (·.1) = false := by rfl) : DE X W (.Call (.Name "all" p0) [a] [] pos) (eCa pAll (esCons ea esNil)) := de_callB (cr_all G.calm) cak_all hg hm bt_all (da1 ha h1) (he := h1) (hpl := h2)
theorem c_any (G : Gd X W k) (hm : X.mg "any" = none) (ha : DE X W a ea) (hg : Gl X "any" := by rfl) (h1 : starEach [a] X.env = (false, eval a X.env) :: starEach [] X.env := by rfl) (h2 : (backTo pos (starEach [] X.env)).any (·.1) = false := by rfl) : DE X W (.Call (.Name "any" p0) [a] [] pos) (eCa pAny (esCons ea esNil)) := de_callB (cr_any G.calm) cak_any hg hm bt_any (da1 ha h1) (he := h1) (hpl := h2)
theorem c_repr (G : Gq X) (hm : X.mg "repr" = none) (ha : DE X W a ea) (hg : Gl X "repr" := by rfl) (h1 : starEach [a] X.env = (false, eval a X.env) :: starEach [] X.env := by rfl) (h2 : (backTo pos (starEach [] X.env)).any (·.1) = false := by rfl) : DE X W (.Call (.Name "repr" p0) [a] [] pos) (eCa pRepr (esCons ea esNil)) := de_callB (call_repr_d G) cak_repr hg hm bt_repr (da1 ha h1) (he := h1) (hpl := h2)
theorem c_max (G : Gd X W k) (hm : X.mg "max" = none) (ha : DE X W a ea) (hb : DE X W b eb) (hg : Gl X "max" := by rfl) (h1 : starEach [a, b] X.env = (false, eval a X.env) :: starEach [b] X.env := by rfl) (h3 : starEach [b] X.env = (false, eval b X.env) :: starEach [] X.env := by rfl) (h2 : (backTo pos (starEach [b] X.env)).any (·.1) = false := by rfl) : DE X W (.Call (.Name "max" p0) [a, b] [] pos) (eCa pMax (esCons ea (esCons eb esNil))) := de_callB (call_max2 G.calm) cak_i2 hg hm bt_max (da2 ha hb h1 h3) (he := h1) (hpl := h2)
theorem c_min (G : Gd X W k) (hm : X.mg "min" = none) (ha : DE X W a ea) (hb : DE X W b eb) (hg : Gl X "min" := by rfl) (h1 : starEach [a, b] X.env = (false, eval a X.env) :: starEach [b] X.env := by rfl) (h3 : starEach [b] X.env = (false, eval b X.env) :: starEach [] X.env := by rfl) (h2 : (backTo pos (starEach [b] X.env)).any (·.1) = false := by rfl) : DE X W (.Call (.Name "min" p0) [a, b] [] pos) (eCa pMin (esCons ea (esCons eb esNil))) := de_callB (call_min2 G.calm) cak_i2 hg hm bt_min (da2 ha hb h1 h3) (he := h1) (hpl := h2)
end
/-- statements -/
theorem s_set {i : Nat} {x : Str} {pos' : Pos} (G : Gq X) (he : DE X W a ea) (hi : X.N[i]? = some x := by rfl) (hx : Loc X.env.scope x := by first | exact Or.inl rfl | exact Or.inr rfl) (hs : swapsWith a (some (.Name x pos')) pos.line X.env = pure false := by rfl) (hf : X.fn x = true ∨ X.env.scope.names.lookup x = some .local := by first | exact .inl rfl | exact .inr rfl) :
    DS X W (.Assign [.Name x pos'] a pos) (sSet i ea) := ds_set G.nd hi hx he hs hf
theorem s_new {i : Nat} {x : Str} {pos' : Pos} {en : Nw} (G : Gq X) (he : DN X W a en) (hi : X.N[i]? = some x := by rfl) (hx : Loc X.env.scope x := by first | exact Or.inl rfl | exact Or.inr rfl) (hs : swapsWith a (some (.Name x pos')) pos.line X.env = pure false := by rfl) (hf : X.fn x = true ∨ X.env.scope.names.lookup x = some .local := by first | exact .inl rfl | exact .inr rfl) :
    DS X W (.Assign [.Name x pos'] a pos) (sNew i en) := ds_new G.nd hi hx he hs hf
/-- a, b = a new list, e -/
@[simp] def sParN (i j : Nat) (n : Nw) (e : Ex) (σ : Sg) (S : Sto) : Option Flow := Sm.bnd (n σ S) fun ob S1 => Sm.bnd (e σ (S1 ++ [ob])) fun y S2 => some (.nx ((σ.set i (some (.r S1.length))).set j (some y)) S2)
theorem ds_parN {i j : Nat} {x y : Str} {en : Nw} {px py pt : Pos} {kt k2 pt2} (G : Gd X W k) (ha : DN X W a en) (hb : DE X W b eb) (hi : X.N[i]? = some x := by rfl) (hj : X.N[j]? = some y := by rfl) (hij : i ≠ j := by decide)
    (hx : X.env.scope.names.lookup x = some .local := by rfl) (hy : X.env.scope.names.lookup y = some .local := by rfl)
    (hw : swappedStores [.Tuple [.Name x px, .Name y py] kt pt] (.Tuple [a, b] k2 pt2) X.env = pure (some [x, y]) := by rfl)
    (hs : swapsWithSole [.Tuple [.Name x px, .Name y py] kt pt] (.Tuple [a, b] k2 pt2) pos.line X.env = pure false := by rfl)
    (h1 : starEach [a, b] X.env = (false, eval a X.env) :: starEach [b] X.env := by rfl) (h2 : starEach [b] X.env = (false, eval b X.env) :: starEach [] X.env := by rfl) :
    DS X W (.Assign [.Tuple [.Name x px, .Name y py] kt pt] (.Tuple [a, b] k2 pt2) pos) (sParN i j en eb) :=
  ps_imp (ps_par G.calm G.nd hi hj hij hx hy (pa_cons ha (pa_cons hb pa_nil h2) h1) hw hs) fun D σV H ⟨f, σ, S, r, hE, hS, hr, hf⟩ => by
    unfold tPar tCons
    refine TN.stm hE hS hr hf fun ob S1 p H1 h1 f1 s1 k1 e1 np => ?_
    dsimp only
    refine TX.stm e1 s1 h1 f1 fun v S2 u H2 h2 f2 s2 k2 e2 r2 => ?_
    cases h2
    have hl : f.o.length = S1.length := by
      have := s1.len
      simp [Ow.add] at this
      exact this
    have hp : SvR X.K (f.add [p]) H2 (.ref p) (.r S1.length) := ⟨p, by show (f.o ++ [p])[S1.length]? = some p; rw [← hl]; simp, rfl⟩
    exact ⟨_, _, rfl, ReS.now f2 s2 ((e2.set i hp).set j r2)⟩
end
end Z
set_option maxRecDepth 100000
set_option maxHeartbeats 1000000
namespace Z
open PySem PySem.Spec PyProof.Rows L2

/-! ## loops, by what holds between two turns -/
theorem forGo_inv {g : Tg} {body : Sm} (P : Nat → Sg → Sto → Prop) : ∀ (ds : List PyData) (k : Nat),
    (∀ (j : Nat) (d : PyData) (σ : Sg) (S : Sto), ds[j]? = some d → P (k + j) σ S → ∃ σ1, g d σ = some σ1 ∧ ∃ σ2 S2, body σ1 S = some (.nx σ2 S2) ∧ P (k + j + 1) σ2 S2) →
    ∀ (σ : Sg) (S : Sto), P k σ S → ∃ σ' S', forGo none g body ds σ S = some (.nx σ' S') ∧ P (k + ds.length) σ' S'
  | [], k, _, σ, S, h => ⟨σ, S, by simp [forGo, gdOk], h⟩
  | d :: ds, k, hs, σ, S, h => by
    obtain ⟨σ1, e1, σ2, S2, e2, h2⟩ := hs 0 d σ S rfl h
    obtain ⟨σ', S', e3, h3⟩ := forGo_inv P ds (k + 1) (fun j d' σ S hd hp => by
      have := hs (j + 1) d' σ S (by simpa using hd) (by rw [show k + (j + 1) = k + 1 + j by omega]; exact hp)
      rw [show k + (j + 1) + 1 = k + 1 + j + 1 by omega] at this
      exact this) σ2 S2 h2
    refine ⟨σ', S', ?_, by rw [List.length_cons, show k + (ds.length + 1) = k + 1 + ds.length by omega]; exact h3⟩
    simp [forGo, gdOk, e1, e2, e3]
theorem cmpGo_inv {g : Tg} {t : Tst} {e : Ex} {σ0 : Sg} (P : Nat → Sto → List PyData → Prop) : ∀ (ds : List PyData) (k : Nat) (acc : List PyData),
    (∀ (j : Nat) (d : PyData) (S : Sto) (ac : List PyData), ds[j]? = some d → P (k + j) S ac → ac.length = acc.length + j → ∃ σ1, g d σ0 = some σ1 ∧ ∃ S1, t σ1 S = some (.ok true S1) ∧ ∃ y S2, e σ1 S1 = some (.ok (.d y) S2) ∧ P (k + j + 1) S2 (ac ++ [y])) →
    acc.length + ds.length ≤ sizeLine → ∀ (S : Sto), P k S acc → ∃ S' out, cmpGo none g t e σ0 ds acc S = some (S', out) ∧ P (k + ds.length) S' out ∧ out.length = acc.length + ds.length
  | [], k, acc, _, _, S, h => ⟨S, acc, by simp [cmpGo, gdOk], h, by simp⟩
  | d :: ds, k, acc, hs, hz, S, h => by
    obtain ⟨σ1, e1, S1, e2, y, S2, e3, h2⟩ := hs 0 d S acc rfl h (by simp)
    have hl : (acc ++ [y]).length = acc.length + 1 := by simp
    obtain ⟨S', out, e4, h3, h4⟩ := cmpGo_inv P ds (k + 1) (acc ++ [y]) (fun j d' S ac hd hp hac => by
      have := hs (j + 1) d' S ac (by simpa using hd) (by rw [show k + (j + 1) = k + 1 + j by omega]; exact hp) (by rw [hac, hl]; omega)
      rw [show k + (j + 1) + 1 = k + 1 + j + 1 by omega] at this
      exact this) (by rw [hl]; simp at hz; omega) S2 h2
    refine ⟨S', out, ?_, by rw [List.length_cons, show k + (ds.length + 1) = k + 1 + ds.length by omega]; exact h3, by rw [h4, hl]; simp; omega⟩
    have hlt : acc.length < sizeLine := by simp at hz; omega
    simp [cmpGo, gdOk, e1, e2, e3, hlt, e4]
/-- a comprehension that changes nothing: each item by itself -/
theorem cmpGo_map {g : Tg} {e : Ex} {σ0 : Sg} {S : Sto} (h : PyData → PyData) : ∀ (ds acc : List PyData),
    (∀ d ∈ ds, ∃ σ1, g d σ0 = some σ1 ∧ e σ1 S = some (.ok (.d (h d)) S)) → acc.length + ds.length ≤ sizeLine → cmpGo none g tTrue e σ0 ds acc S = some (S, acc ++ ds.map h)
  | [], acc, _, _ => by simp [cmpGo, gdOk]
  | d :: ds, acc, hs, hz => by
    obtain ⟨σ1, e1, e2⟩ := hs d List.mem_cons_self
    have hlt : acc.length < sizeLine := by simp at hz; omega
    have ih := cmpGo_map h ds (acc ++ [h d]) (fun d' m => hs d' (List.mem_cons_of_mem _ m)) (by simp at hz ⊢; omega)
    simp [cmpGo, gdOk, e1, tTrue, e2, hlt, ih]
theorem upTo_len (lo : Int) (n : Nat) : (upTo lo n).length = n := by simp [upTo]
theorem upTo_get {lo : Int} {n i : Nat} {d : PyData} (h : (upTo lo n)[i]? = some d) : i < n ∧ d = .int (lo + (i : Int)) := by
  have hi : i < n := by
    have := (List.getElem?_eq_some_iff.mp h).1
    simpa [upTo] using this
  refine ⟨hi, ?_⟩
  unfold upTo at h
  rw [List.getElem?_map, List.getElem?_range hi] at h
  exact (Option.some.inj h).symm

/-! ## the great modulus of a stream -/
def T60 : Int := 10 ^ 60
def T720 : Int := T60 ^ 12
theorem pow_a (S : Sto) : pPow (.d (.int 10)) (.d (.int 60)) S = some (.d (.int T60)) := by
  have h : (0 : Int) ≤ 60 ∧ (60 : Int) ≤ 1000 ∧ -(10 ^ 60) ≤ (10 : Int) ∧ (10 : Int) ≤ 10 ^ 60 := by decide +kernel
  unfold pPow iop
  dsimp only
  rw [if_pos h]
  rfl
theorem pow_b (S : Sto) : pPow (.d (.int T60)) (.d (.int 12)) S = some (.d (.int T720)) := by
  have h : (0 : Int) ≤ 12 ∧ (12 : Int) ≤ 1000 ∧ -(10 ^ 60) ≤ T60 ∧ T60 ≤ 10 ^ 60 := by decide +kernel
  unfold pPow iop
  dsimp only
  rw [if_pos h]
  rfl
theorem T720_pos : 0 < T720 := by decide +kernel
def T18 : Int := 10 ^ 18
theorem pow_c (S : Sto) : pPow (.d (.int 10)) (.d (.int 18)) S = some (.d (.int T18)) := by
  have h : (0 : Int) ≤ 18 ∧ (18 : Int) ≤ 1000 ∧ -(10 ^ 60) ≤ (10 : Int) ∧ (10 : Int) ≤ 10 ^ 60 := by decide +kernel
  unfold pPow iop
  dsimp only
  rw [if_pos h]
  rfl
theorem pow_g {a b : Int} (S : Sto) (h : 0 ≤ b ∧ b ≤ 1000 ∧ -(10 ^ 60) ≤ a ∧ a ≤ 10 ^ 60) : pPow (.d (.int a)) (.d (.int b)) S = some (.d (.int (a ^ b.toNat))) := by
  unfold pPow iop
  dsimp only
  rw [if_pos h]
  rfl

/-! ## == of data -/
def tupI (ns : List Int) : PyData := .tuple (ns.map .int)
mutual
theorem eqv_self : ∀ d : PyData, d.hasDict = false → PyData.eqv d d = true
  | .none, _ => by simp [PyData.eqv]
  | .bool b, _ => by simp [PyData.eqv]
  | .int i, _ => by simp [PyData.eqv]
  | .str x, _ => by simp [PyData.eqv]
  | .list ds, h => by simp only [PyData.eqv]; exact eqv_selfs ds (by simpa [PyData.hasDict] using h)
  | .tuple ds, h => by simp only [PyData.eqv]; exact eqv_selfs ds (by simpa [PyData.hasDict] using h)
  | .dict _, h => by simp [PyData.hasDict] at h
theorem eqv_selfs : ∀ ds : List PyData, PyData.hasDictAll ds = false → PyData.eqvAll ds ds = true
  | [], _ => by simp [PyData.eqvAll]
  | d :: ds, h => by
    have h : d.hasDict = false ∧ PyData.hasDictAll ds = false := by simpa [PyData.hasDictAll] using h
    simp [PyData.eqvAll, eqv_self d h.1, eqv_selfs ds h.2]
end
theorem okD_int (i : Int) : okD (.int i) = true := by
  unfold okD SeqAt.shaped
  simp [PyData.canLay0, PyData.depth]
theorem okD_bool (i : Bool) : okD (.bool i) = true := by
  unfold okD SeqAt.shaped
  simp [PyData.canLay0, PyData.depth]
theorem okD_none : okD .none = true := by
  unfold okD SeqAt.shaped
  simp [PyData.canLay0, PyData.depth]
theorem hasDict_ints (ns : List Int) : PyData.hasDictAll (ns.map .int) = false := by
  induction ns with
  | nil => simp [PyData.hasDictAll]
  | cons n ns ih => simp [PyData.hasDictAll, PyData.hasDict, ih]
end Z
set_option maxRecDepth 100000
set_option maxHeartbeats 1000000
namespace Z
open PySem PySem.Spec PyProof.Rows L2

/-! ## how long a repr is at most -/
mutual
/-- a bound of the signs of a repr -/
def szR : PyData → Nat
  | .none => 4
  | .bool _ => 5
  | .int i => i.natAbs.log2 + 3
  | .str x => (reprText x).length
  | .list xs => szRs xs + 2
  | .tuple xs => szRs xs + 3
  | .dict kvs => (PyData.shown (.dict kvs)).length
def szRs : List PyData → Nat
  | [] => 0
  | x :: xs => szR x + 2 + szRs xs
end
theorem strLen_of (s : String) : (Str.ofString s).length = s.length := by
  rw [Str.ofString_eq_toList]
  show ((s.toList.map Char.toNat).toArray).size = _
  simp [String.length_toList]
theorem nat_repr_len (n : Nat) : n.repr.length ≤ n.log2 + 1 := by
  rw [Nat.length_repr_le_iff (by omega)]
  have h1 := Nat.lt_log2_self (n := n)
  have h2 : (2 : Nat) ^ (n.log2 + 1) ≤ 10 ^ (n.log2 + 1) := Nat.pow_le_pow_left (by omega) _
  omega
theorem int_str_len (i : Int) : (Str.ofString (toString i)).length ≤ i.natAbs.log2 + 3 := by
  rw [strLen_of]
  cases i with
  | ofNat m =>
    have := nat_repr_len m
    show (m.repr).length ≤ m.log2 + 3
    omega
  | negSucc m =>
    have := nat_repr_len (m + 1)
    show ("-" ++ (m + 1).repr).length ≤ (m + 1).log2 + 3
    rw [String.length_append]
    have e : ("-" : String).length = 1 := rfl
    omega
theorem textFrom_len0 (ts : List Str) : (listText ts).length ≤ piled ts + 2 := by
  cases ts with
  | nil => decide
  | cons t r =>
    have h := textFrom_length_pos r 1 (("[" : Str) ++ ("" : String) ++ t) (by omega)
    have e : (("[" : Str) ++ ("" : String) ++ t).length = 1 + t.length := by
      rw [strLen_append, strLen_append]; rfl
    show ((textFrom 1 (("[" : Str) ++ ("" : String) ++ t) r) ++ ("]" : Str)).length ≤ _
    rw [strLen_append, h, e, piled_cons]
    have e3 : (("]" : String) : Str).length = 1 := rfl
    omega
theorem tupleText_len0 (ts : List Str) : (tupleText ts).length ≤ piled ts + 3 := by
  cases ts with
  | nil => decide
  | cons t r =>
    have h := join_length_add (t :: r) (by simp)
    unfold tupleText
    rw [strLen_append, strLen_append]
    have e1 : (("(" : String) : Str).length = 1 := rfl
    have e2 : ((if (t :: r).length == 1 then ",)" else ")" : String) : Str).length ≤ 2 := by
      split
      · exact Nat.le_refl _
      · decide
    omega
mutual
theorem shown_le : ∀ d : PyData, d.shown.length ≤ szR d
  | .none => by simp only [PyData.shown, szR]; decide
  | .bool b => by cases b <;> (simp only [PyData.shown, szR]; decide)
  | .int i => by simp only [PyData.shown, szR]; exact int_str_len i
  | .str x => by simp only [PyData.shown, szR]; exact Nat.le_refl _
  | .list xs => by
    have := shown_les xs
    have h2 := textFrom_len0 (PyData.shownAll xs)
    simp only [PyData.shown, szR]
    omega
  | .tuple xs => by
    have := shown_les xs
    have h2 := tupleText_len0 (PyData.shownAll xs)
    simp only [PyData.shown, szR]
    omega
  | .dict kvs => Nat.le_refl _
theorem shown_les : ∀ ds : List PyData, piled (PyData.shownAll ds) ≤ szRs ds
  | [] => by simp [PyData.shownAll, szRs, piled_nil]
  | d :: ds => by
    have h1 := shown_le d
    have h2 := shown_les ds
    simp only [PyData.shownAll, szRs, piled_cons]
    omega
end
theorem okR_of {d : PyData} (h1 : d.showable = true) (h2 : d.depth ≤ 100) (h4 : szR d ≤ sizeLine) : okR d :=
  ⟨h1, h2, Nat.le_trans (shown_le d) h4⟩
/-! ### tuples of small numbers -/
def smallN (ns : List Int) : Prop := ∀ n ∈ ns, -18446744073709551616 < n ∧ n < 18446744073709551616
theorem log_small {n : Int} (h : -18446744073709551616 < n ∧ n < 18446744073709551616) : n.natAbs.log2 ≤ 63 := by
  by_cases h0 : n.natAbs = 0
  · rw [h0]; decide
  · have h1 : n.natAbs < 2 ^ 64 := by omega
    have := (Nat.log2_lt h0).mpr h1
    omega
theorem ints_sz {ns : List Int} (h : smallN ns) : szRs (ns.map .int) ≤ 70 * ns.length := by
  induction ns with
  | nil => simp [szRs]
  | cons n ns ih =>
    have h1 := log_small (h n List.mem_cons_self)
    have h2 := ih fun m hm => h m (List.mem_cons_of_mem _ hm)
    simp only [List.map_cons, szRs, szR, List.length_cons]
    omega
theorem ints_show {ns : List Int} (h : smallN ns) : PyData.showableAll (ns.map .int) = true := by
  induction ns with
  | nil => simp [PyData.showableAll]
  | cons n ns ih =>
    have h1 := log_small (h n List.mem_cons_self)
    have h2 := ih fun m hm => h m (List.mem_cons_of_mem _ hm)
    simp only [List.map_cons, PyData.showableAll, PyData.showable, h2, Bool.and_true, decide_eq_true_eq]
    omega
theorem ints_depth (ns : List Int) : PyData.depthAll (ns.map .int) = 0 := by
  induction ns with
  | nil => simp [PyData.depthAll]
  | cons n ns ih => simp [PyData.depthAll, PyData.depth, ih]
theorem ints_lay (ns : List Int) : PyData.canLayAll0 (ns.map .int) = true := by
  induction ns with
  | nil => simp [PyData.canLayAll0]
  | cons n ns ih => simp [PyData.canLayAll0, PyData.canLay0, ih]
theorem okD_tupI (ns : List Int) : okD (tupI ns) = true := by
  unfold okD SeqAt.shaped tupI
  simp [PyData.canLay0, PyData.depth, ints_depth, ints_lay]
theorem okD_lstI (ns : List Int) : okD (.list (ns.map .int)) = true := by
  unfold okD SeqAt.shaped
  simp [PyData.canLay0, PyData.depth, ints_depth, ints_lay]
/-- what may be shown: no dict, not deep, not long -/
structure Sh (d : PyData) (dep sz : Nat) : Prop where
  s : d.showable = true
  p : d.depth ≤ dep
  z : szR d ≤ sz
structure Shs (ds : List PyData) (dep sz : Nat) : Prop where
  s : PyData.showableAll ds = true
  p : PyData.depthAll ds ≤ dep
  z : szRs ds ≤ sz
theorem Sh.ok {d : PyData} {dep sz : Nat} (h : Sh d dep sz) (h1 : dep ≤ 100 := by omega) (h2 : sz ≤ sizeLine := by decide) : okR d :=
  okR_of h.s (by have := h.p; omega) (by have := h.z; omega)
theorem Shs.nil (dep sz : Nat) : Shs [] dep sz := ⟨by simp [PyData.showableAll], by simp [PyData.depthAll], by simp [szRs]⟩
theorem Shs.cons {d : PyData} {ds : List PyData} {dep sz sz2 : Nat} (h : Sh d dep sz) (h2 : Shs ds dep sz2) : Shs (d :: ds) dep (sz + 2 + sz2) :=
  ⟨by simp [PyData.showableAll, h.s, h2.s], by have := h.p; have := h2.p; simp only [PyData.depthAll]; omega, by have := h.z; have := h2.z; simp only [szRs]; omega⟩
theorem Shs.list {ds : List PyData} {dep sz : Nat} (h : Shs ds dep sz) : Sh (.list ds) (dep + 1) (sz + 2) :=
  ⟨by simp [PyData.showable, h.s], by have := h.p; simp only [PyData.depth]; omega, by have := h.z; simp only [szR]; omega⟩
theorem Shs.tup {ds : List PyData} {dep sz : Nat} (h : Shs ds dep sz) : Sh (.tuple ds) (dep + 1) (sz + 3) :=
  ⟨by simp [PyData.showable, h.s], by have := h.p; simp only [PyData.depth]; omega, by have := h.z; simp only [szR]; omega⟩
theorem Sh.int {n : Int} (h : -18446744073709551616 < n ∧ n < 18446744073709551616) {dep : Nat} : Sh (.int n) dep 70 :=
  ⟨by have := log_small h; simp only [PyData.showable, decide_eq_true_eq]; omega, by simp [PyData.depth], by have := log_small h; simp only [szR]; omega⟩
theorem Sh.tupI {ns : List Int} (h : smallN ns) {m : Nat} (hm : ns.length ≤ m) : Sh (tupI ns) 1 (70 * m + 3) :=
  ⟨by simp only [Z.tupI, PyData.showable]; exact ints_show h, by simp [Z.tupI, PyData.depth, ints_depth], by have := ints_sz h; simp only [Z.tupI, szR]; omega⟩
end Z
namespace Z
open PySem
@[simp] theorem sz_le {n : Nat} (h : n ≤ 1000) : n ≤ sizeLine := Nat.le_trans h (by decide)
@[simp] theorem sz_lt {n : Nat} (h : n < 1000) : n < sizeLine := Nat.lt_of_lt_of_le h (by decide)
end Z
namespace Z
open PySem
theorem seq_nx {a b : Sm} {σ σ' : Sg} {S S' : Sto} (h : a σ S = some (.nx σ' S')) : sSeq a b σ S = b σ' S' := by
  unfold sSeq
  rw [h]
end Z
namespace Z
open PySem
theorem eBin_eq {p : SV → SV → Sto → Option SV} {a b : Ex} {σ : Sg} {S S1 S2 : Sto} {x y z : SV} (h1 : a σ S = some (.ok x S1)) (h2 : b σ S1 = some (.ok y S2)) (h3 : p x y S2 = some z) : eBin p a b σ S = some (.ok z S2) := by
  unfold eBin
  rw [h1, bnd_ok, h2, bnd_ok, h3]
  rfl
end Z
set_option maxRecDepth 100000
set_option maxHeartbeats 1000000
namespace Z
open PySem PySem.Spec PyProof.Rows L2

/-! ## own exceptions over any base that keep one field -/
/-- what is written of such a class, its base made by nid -/
structure KeepC (K : PySem.W.Frag) (C : Addr) (bmB : List Value) (nid : String) : Prop where
  made : PySem.W.excInitIn K C bmB nid = true
  over : PySem.W.excOver K C bmB = true
  hasD : PySem.W.hasDictIn K C = true
  sa : PySem.W.findIn K (.ref C) "__setattr__" = some (some (.builtin "object.__setattr__"))
  exC : PySem.W.subIn K (.ref C) (.type "BaseException") = some true
  tyC : PySem.W.typeIn K (.ref C) = some (.type "type")
  kC : PySem.W.keepIn K (.ref C) = true
section
open PySem.W PySem.Calls PySem.HandSPX Builtin Builtin.ObjectAttr
theorem keep_osa {prog : Program} {w : World} {A : Around} {R : Result → Shared → Prop} {hp : Heap} {g : Array GenState} {d : Drawn} {t : Nat} {os : OsState} {K : PySem.W.Frag} {name : Str} {tk : Tok} {v : Value} {x C : Addr} {fv : Array Value} {B : String} {bmB : List Value}
    (SF : StoreFacts B bmB "object.__setattr__" "object") (KX : K.In hp) (hx : hp.get? x = some { cls := .ref C, data := .fields fv }) (ho : PySem.W.excOver K C bmB = true) (hd : PySem.W.hasDictIn K C = true) (hno : PySem.W.findIn K (.ref C) name = some none)
    (hq : ∀ h2 tk2 dx, (∀ b o, b ≠ x → hp.get? b = some o → h2.get? b = some o) → hp.objs.size ≤ dx → dx ≠ x → h2.get? x = some { cls := .ref C, dict := some dx, data := .fields fv } →
      h2.Ns1 dx (fun y => if y = name then some v else none) → R (.ok (.ret .none)) ⟨h2, g, d, tk2, os⟩) :
    codeAny (model prog w) A (.call (.builtin "object.__setattr__") ⟨[.ref x, .str name tk, v], []⟩) R ⟨hp, g, d, t, os⟩ := by
  have I : PySem.W.InstAt hp x { cls := .ref C, data := .fields fv } C none := ⟨hx, rfl, rfl, trivial⟩
  have ht : PySem.W.takerIn K C name = some none := by
    unfold PySem.W.takerIn
    rw [hno]
    rfl
  refine PySem.W.osa_openX SF KX I ho ht fun b => ?_
  obtain ⟨cd, hcd, hdd⟩ := PySem.W.any_some hd
  have hxs : x ≠ hp.objs.size := Nat.ne_of_lt (Heap.lt_size hx)
  have hcls : PySem.W.Looks (model prog w) hp (classData C) cd := PySem.W.looks_clsIn KX hcd
  show wpAny _ _ (storeInOwnDict (.ref x) (.ref C) (.str name tk) name v b) _ _ _
  obtain ⟨nm, bs, mro, ns, qn, hdc, sn, sb, ab, col, del⟩ := cd
  dsimp only at hdd
  subst hdd
  unfold storeInOwnDict ownDictForStores
  repeat (first | with_reducible refine store_in_new ?_ ?_ | with_reducible refine wpAny_loadPart_at hx ?_ | with_reducible refine hcls.at ?_ | wp_step)
  · exact ⟨_, #[], _, (Heap.get?_update_ne _ _ _ _ hxs.symm).trans (Heap.get?_push_at rfl rfl), rfl, fun e he => absurd he (by simp), fun _ => rfl⟩
  · intro h2 tk2 hn2 hs
    have hx1 : (hp.push { cls := .type "dict", data := .dict #[] }).get? x = some { cls := .ref C, data := .fields fv } := Heap.get?_push_of_some _ hx
    refine hq h2 tk2 hp.objs.size (fun b o hb hbo => ?_) (Nat.le_refl _) hxs.symm ?_ hn2
    · have z1 := hs.2 b (Nat.ne_of_lt (Heap.lt_size hbo))
      exact z1.trans ((Heap.get?_update_ne _ _ _ _ hb).trans (Heap.get?_push_of_some _ hbo))
    · have z2 := hs.2 x hxs
      exact z2.trans (Heap.get?_update_self _ hx1 rfl)
end
theorem KeepC.cls {K : PySem.W.Frag} {C : Addr} {bmB : List Value} {nid : String} (T : KeepC K C bmB nid) : ∃ nm q N bs bm sn sub ab col dd k0 k1 k2 k3 k5, K.lookup C = some (excClassObj nm q C N bs bm true sn sub ab col dd k0 k1 k2 k3 k5 nid) ∧ ∀ Y : String, bm.contains (.type Y) = bmB.contains (.type Y) := by
  have q := T.made
  have hd := T.hasD
  unfold PySem.W.excInitIn at q
  split at q
  · rename_i dd cd sl e
    split at q
    · rename_i C2 bm k0 k1 k2 k3 n k5 hm hs
      simp only [Bool.and_eq_true, beq_iff_eq, Bool.not_eq_true'] at q
      obtain ⟨⟨⟨q1, q2⟩, q3⟩, q4⟩ := q
      subst q1 q2
      obtain ⟨cd2, h2, h3⟩ := PySem.W.any_some hd
      have h4 : cd2 = cd := by
        unfold PySem.W.clsIn at h2
        rw [e] at h2
        exact (Option.some.inj h2).symm
      subst h4
      obtain ⟨nm, bs, mro, ns, qn, hd, sn, sub, ab, col, del⟩ := cd2
      dsimp only at hm q3 h3
      subst hm q3 h3
      have hsl : sl = #[k0, k1, k2, k3, some (.builtin n), k5] := by
        cases sl with
        | mk l =>
          simp only at hs
          rw [hs]
      subst hsl
      exact ⟨nm, qn, ns, bs, bm, sn, sub, ab, col, dd, k0, k1, k2, k3, k5, e, fun Y => PySem.W.excTail_contains Y _ q4⟩
    · cases q
  · cases q
section
variable {X : Cx} {pins : List (Addr × Obj)} {σ : L2.St} {H : Hp} {s : Shared} {a C dx : Addr} {f : Str} {y : V} {u : Value} {Q : Unit → Shared → Prop} {E : Value → Shared → Prop} {A : Around} {B nid iid : String} {bmB : List Value}
/-- self.f = y, the first and only one -/
theorem keep_set (SF : StoreFacts B bmB "object.__setattr__" "object") (T : KeepC X.K C bmB nid) (I : Inv X pins σ H s) (e : H a = some (exo a C none)) (hno : PySem.W.findIn X.K (.ref C) f = some none) (ry : RelV y u)
    (h : ∀ dx s2, H dx = none → dx ≠ a → Inv X pins σ (upd (upd H dx (exd dx [(f, y)])) a (exo a C (some dx))) s2 → Q () s2) : wpAny (model X.prog X.w) A (setAttr (.ref a) f u) Q E s := by
  obtain ⟨t1, ho⟩ := exo_at I.hok e
  obtain ⟨hp, g, d, t, os⟩ := s
  refine PySem.W.set_plain I.kIn (ox := { cls := .ref C, dict := none, data := .fields #[.ref t1, .none, .none, .none, .bool false, .none] }) (od := none) ⟨ho, rfl, rfl, trivial⟩ T.sa ?_
  refine keep_osa SF I.kIn ho T.over T.hasD hno fun h2 t2 dx k dn dne hx hn => ?_
  have hnd : H dx = none := I.hok.fresh dn
  have nd : ∀ {b : Addr} {o : Obj}, hp.get? b = some o → b ≠ dx := fun {b o} z => Nat.ne_of_lt (Nat.lt_of_lt_of_le (Heap.lt_size z) dn)
  have na : ∀ {b : Addr}, H b = none → b ≠ a := fun {b} n z => by
    subst z
    rw [e] at n
    cases n
  have U : Un X.fs [] H (upd (upd H dx (exd dx [(f, y)])) a (exo a C (some dx))) hp h2 := by
    constructor
    · exact fun b o z n _ _ => k b o (na n) z
    · exact fun b o z n _ _ => ⟨o.slots, k b o (na n) z⟩
    · exact fun b o z n _ => by rw [upd_ne (na n), upd_ne (nd z)]; exact n
    · intro b o z _
      by_cases hb : b = a
      · subst hb
        exact ⟨_, hx⟩
      · exact ⟨o, k b o hb z⟩
    · exact fun b xs z => by rw [upd_ne (at_ne e z exo_tup), upd_ne (ne_of_none z hnd)]; exact z
    · exact fun b o v z => by rw [upd_ne (at_ne e z exo_frz), upd_ne (ne_of_none z hnd)]; exact z
    · exact fun b ps z => ⟨#[], by rw [upd_ne (at_ne e z exo_tbl), upd_ne (ne_of_none z hnd), z]; simp⟩
  refine h dx _ hnd dne (I.un (t' := t2) U fun b o z => ?_)
  by_cases hb : b = a
  · subst hb
    rw [upd_same] at z
    cases z
    exact exo_ok hx
  rw [upd_ne hb] at z
  by_cases hd : b = dx
  · subst hd
    rw [upd_same] at z
    cases z
    exact exd_ok hn (relO_put (fs := []) ry fun g => True.intro)
  rw [upd_ne hd] at z
  refine (I.hok b o z).stay (fun c v hc y => k c v ?_ y) (fun c hc => ?_) (fun c xs hc => ?_)
  · rcases hc with hc | hc
    · rw [hc]; exact hb
    · exact at_ne e hc exo_own
  · rw [upd_ne (at_ne e hc exo_own), upd_ne (ne_of_none hc hnd)]; exact hc
  · rw [upd_ne (at_ne e hc exo_tup), upd_ne (ne_of_none hc hnd)]; exact hc
/-- B.__init__(self, ..) -/
theorem keep_init {us : List Value} {Q : Value → Shared → Prop} (F : ExcBaseFacts B nid iid bmB) (T : KeepC X.K C bmB nid) (I : Inv X pins σ H s) (e : H a = some (exo a C none)) (hl : us.length ≤ sizeLine) (h : ∀ s2, Inv X pins σ H s2 → Q .none s2) :
    wpAny (model X.prog X.w) A (call (.builtin iid) (.ref a :: us)) Q E s := by
  obtain ⟨nm, q, N, bs, bm, sn, sub, ab, col, dd, k0, k1, k2, k3, k5, hC, hbm⟩ := T.cls
  obtain ⟨t1, ho⟩ := exo_at I.hok e
  obtain ⟨hp, g, d, t, os⟩ := s
  refine wpAny_call (PySem.HandSPX.init_base F hbm (I.kIn _ _ hC) ho hl fun h2 t2 k hx => ?_)
  have J := I.write (t' := t) (x := a) (e := a) (o := exo a C none) (by rw [e]; exact True.intro) (.inl rfl) k ⟨_, hx⟩ (exo_ok hx)
  have eu : upd H a (exo a C none) = H := funext fun b => by
    by_cases hb : b = a
    · rw [hb, upd_same, e]
    · rw [upd_ne hb]
  exact h _ (eu ▸ J)
end
end Z
set_option maxRecDepth 100000
set_option maxHeartbeats 1000000
namespace Z
open PySem PySem.Spec PyProof.Rows L2

/-- B.__init__(self, ..) as an expression; what a base class gives -/
structure KBase (B nid iid : String) (bmB : List Value) : Prop where
  F : ExcBaseFacts B nid iid bmB
  SF : StoreFacts B bmB "object.__setattr__" "object"
  ty : typeOf (.type B) = pure (.type "type")
  st : Manifest.isStub B = false
  hi : PySem.W.handedIn (.builtin iid) = true
  bt : bootBuiltins (Str.ofString B) = some (.type B)
def tBin (K : PySem.W.Frag) (bmB : List Value) (nid : String) (ta : TA) : TE := fun σ H Q => ta σ H fun vs H1 => ∃ (a C : Addr) (ws : List V), vs = .ref a :: ws ∧ ws.length ≤ 1000 ∧ KeepC K C bmB nid ∧ H1 a = some (exo a C none) ∧ Q .non H1
def tKst (K : PySem.W.Frag) (bmB : List Value) (nid : String) (f : Str) (to te : TE) : TS := fun D σ H => te σ H fun y H1 => to σ H1 fun x H2 => ∃ a C : Addr, x = .ref a ∧ KeepC K C bmB nid ∧ PySem.W.findIn K (.ref C) f = some none ∧
  H2 a = some (exo a C none) ∧ ∀ dx, H2 dx = none → dx ≠ a → D.nx σ (upd (upd H2 dx (exd dx [(f, y)])) a (exo a C (some dx)))
section
variable {X : Cx} {o e : Expr} {es : List Expr} {to te : TE} {ta : TA} {f x : Str} {p p' p1 p2 pos : Pos} {B nid iid : String} {bmB : List Value}
theorem pe_binit {pl : Sem Bool} (KB : KBase B nid iid bmB) (hg : Gl X (Str.ofString B)) (hm : X.mg (Str.ofString B) = none) (vV : PySem.W.findCls X.K (.type B) (.type "type") "__init__" = some (.val (.builtin iid))) (ha : PA X (e :: es) ta)
    (hn : Str.ofString B ≠ "__name__" := by decide) (hdb : (Str.ofString B == ("__debug__" : Str)) = false := by decide)
    (hc : eval (.Call (.Attribute (.Name (Str.ofString B) p1) "__init__" p2) (e :: es) [] pos) X.env = (do
      let ov ← eval (.Name (Str.ofString B) p1) X.env
      standAt p2.atName
      let (m, fst) ← holding [ov] (getMethod ov "__init__" pl)
      callWith pos m fst (backTo pos (starEach (e :: es) X.env)) (backToKw pos (keywordEach [] X.env))) := by rfl)
    (he : starEach (e :: es) X.env = (false, eval e X.env) :: starEach es X.env := by rfl) (hpl : (backTo pos (starEach es X.env)).any (·.1) = false := by rfl) :
    PE X (.Call (.Attribute (.Name (Str.ofString B) p1) "__init__" p2) (e :: es) [] pos) (tBin X.K bmB nid ta) := by
  refine ⟨fun pins s σ H Q I h => ?_⟩
  refine PySem.W.methodCall_KW (ld_blt I hg hm KB.bt ?_ hn hdb) hc
  obtain ⟨m, fr⟩ := I.fr
  refine PySem.W.method_type fr I.ok.mod.kin KB.ty KB.st vV KB.hi ?_
  show wpAny _ _ (callWith pos (Value.builtin iid) [] (backTo pos (starEach (e :: es) X.env)) []) _ _ _
  refine PyProof.Rows.callWith_method1 (thn (ha.run pos pins _ σ H _ (I.tok _) h) fun us s1 ⟨vs, H1, I1, r1, a, C, ws, ev, hl, T, ea, q⟩ => ?_) he hpl
  subst ev
  cases r1 with
  | @cons _ u0 _ ur ra rw2 =>
    obtain rfl : u0 = Value.ref a := ra
    have hlen : ur.length ≤ sizeLine := Nat.le_trans (Nat.le_of_eq (Paired.length rw2).symm) (Nat.le_trans hl (by decide))
    exact keep_init KB.F T I1 ea hlen fun s2 J => ⟨.non, H1, J, rfl, q⟩
theorem ps_kst (SF : StoreFacts B bmB "object.__setattr__" "object") (ho : PE X o to) (he : PE X e te) (hs : swapsWith e (some (.Attribute o f p')) pos.line X.env = pure false := by rfl) : PS X (.Assign [.Attribute o f p'] e pos) (tKst X.K bmB nid f to te) := by
  refine ⟨fun pins s σ H D I h => ?_⟩
  refine plainObj_wpAny_Assign_Attribute (thn (he.run pins s σ H _ I h) fun v s1 ⟨y, H1, I1, r1, q1⟩ => thn (ho.run pins s1 σ H1 _ I1 q1) fun u s2 ⟨x2, H2, I2, r2, a, C, ex, T, hno, ea, q⟩ => ?_) hs
  subst ex
  obtain rfl : u = Value.ref a := r2
  exact keep_set SF T I2 ea hno r1 fun dx s3 n ne J => ⟨σ, _, J, q dx n ne⟩
end
/-- the promise of such an __init__ -/
def spKeep (C : Addr) (f : Str) : Sp := fun vs H Q _ => ∃ (a : Addr) (v : V), vs = [.ref a, v] ∧ H a = some (exo a C none) ∧ ∀ dx, H dx = none → dx ≠ a → Q .non (upd (upd H dx (exd dx [(f, v)])) a (exo a C (some dx)))
section
variable {P : Program} {w : World} {K : PySem.W.Frag} {mg : Str → Option Value} {base : Heap} {B nid iid : String} {bmB : List Value}
/-- def __init__(self, v): B.__init__(self, v); self.f = v -/
theorem fn_keep {fI C : Addr} {qual : Str} {params : Arguments} {scope : Scope} {dV kV doc pm cdv ct oc : Value} {an od : Option Addr} {osl : Array (Option Value)} {sf vn f : Str} {p1 p2 p3 p4 p5 p6 p7 p8 p9 p10 : Pos}
    (KB : KBase B nid iid bmB) (T : KeepC K C bmB nid) (hno : PySem.W.findIn K (.ref C) f = some none) (vV : PySem.W.findCls K (.type B) (.type "type") "__init__" = some (.val (.builtin iid))) (hmB : mg (Str.ofString B) = none)
    (lk : K.lookup fI = some ⟨oc, od, .func (PySem.W.fnOf "__init__" qual params [.Expr (.Call (.Attribute (.Name (Str.ofString B) p1) "__init__" p2) [.Name sf p3, .Name vn p4] [] p5) p6, .Assign [.Attribute (.Name sf p7) f p8] (.Name vn p9) p10] scope dV kV doc pm an cdv ct), osl⟩)
    (hcd : PySem.W.codeIn K cdv qual = true) (S : FnScope [sf, vn] [sf, vn] scope) (hgB : scope.names.lookup (Str.ofString B) = some .globalImplicit) (hsf : scope.names.lookup sf = some .local) (hvn : scope.names.lookup vn = some .local)
    (hc : ∀ env : Env, env.scope = scope → ∃ pl : Sem Bool, eval (.Call (.Attribute (.Name (Str.ofString B) p1) "__init__" p2) [.Name sf p3, .Name vn p4] [] p5) env = (do
      let ov ← eval (.Name (Str.ofString B) p1) env
      standAt p2.atName
      let (m, fst) ← holding [ov] (getMethod ov "__init__" pl)
      callWith p5 m fst (backTo p5 (starEach [.Name sf p3, .Name vn p4] env)) (backToKw p5 (keywordEach [] env))))
    (hn : Str.ofString B ≠ "__name__" := by decide) (hdb : (Str.ofString B == ("__debug__" : Str)) = false := by decide)
    (d1 : (sf == ("__debug__" : Str)) = false := by decide) (d2 : (sf == ("__classdict__" : Str)) = false := by decide) (d3 : (vn == ("__debug__" : Str)) = false := by decide) (d4 : (vn == ("__classdict__" : Str)) = false := by decide) :
    FnOk P w K mg base C8.CX0 1 fI (PySem.W.fnOf "__init__" qual params [.Expr (.Call (.Attribute (.Name (Str.ofString B) p1) "__init__" p2) [.Name sf p3, .Name vn p4] [] p5) p6, .Assign [.Attribute (.Name sf p7) f p8] (.Name vn p9) p10] scope dV kV doc pm an cdv ct) [sf, vn] (spKeep C f) := by
  refine fn_of lk hcd S (fun vs H Q E ⟨a, v, e, _⟩ => by rw [e]; rfl) fun A outer s H vs Q E hr ⟨a, v, e, ea, q⟩ => ?_
  subst e
  obtain ⟨pl, hc⟩ := hc (cxOf C8.CX0 P w K mg base [sf, vn] qual scope fI cdv A outer s H E).env rfl
  refine ⟨_, pss_cons (ps_expr (pe_binit (pl := pl) KB (hgB) hmB vV (pa_cons (pe_var (i := 0) rfl (.inl hsf) d1 d2) (pa_cons (pe_var (i := 1) rfl (.inl hvn) d3 d4) pa_nil)) hn hdb hc)) (pss_one (ps_kst (nid := nid) KB.SF (pe_var (i := 0) rfl (.inl hsf) d1 d2) (pe_var (i := 1) rfl (.inl hvn) d3 d4))), ?_⟩
  refine ⟨.ref a, rfl, v, rfl, a, C, [v], rfl, by simp, T, ea, ?_⟩
  exact ⟨v, rfl, .ref a, rfl, a, C, rfl, T, hno, ea, fun dx n ne => q dx n ne⟩
end
/-- C(e): an own exception that keeps e's value -/
def tKeep (C : Addr) (f : Str) (ta : TA) : L2.St → Hp → XK → Prop := fun σ H Q => ta σ H fun vs H1 => ∃ v, vs = [v] ∧ ∀ d, H1 d = none → Q (.ref C) (some d) (upd H1 d (.xd [(f, v)]))
theorem pmk_keep {X : Cx} {x f : Str} {C fI : Addr} {k : Nat} {fd : FuncData} {ps : List Str} {ta : TA} {e : Expr} {es : List Expr} {p pos : Pos} {B nid iid : String} {bmB : List Value} (KB : KBase B nid iid bmB) (T : KeepC X.K C bmB nid) (iC : PySem.W.findIn X.K (.ref C) "__init__" = some (some (.ref fI))) (tI : PySem.W.typeIn X.K (.ref fI) = some (.type "function"))
    (F1 : FnOk X.prog X.w X.K X.mg X.base C8.CX0 k fI fd ps (spKeep C f)) (hr : Room (k + 1) X.A) (hb : Binds X.K fd ps []) (hg : Gl X x) (hm : X.mg x = some (.ref C)) (ha : PA X (e :: es) ta)
    (hdb : (x == ("__debug__" : Str)) = false := by decide) (hs : starEach (e :: es) X.env = (false, eval e X.env) :: starEach es X.env := by rfl) (hpl : (backTo pos (starEach es X.env)).any (·.1) = false := by rfl) :
    PMk X (.Call (.Name x p) (e :: es) [] pos) (tKeep C f ta) := by
  intro pins s σ H Q I h
  obtain ⟨nm, q, N, bs, bm, sn, sub, ab, col, dd, k0, k1, k2, k3, k5, hC, hbm⟩ := T.cls
  refine wpAny_Call_Name_kw (ld_glob I hg hm ?_ hdb)
  refine PySem.W.callWith_K (h₀ := X.base) I.ok.mod.kin T.kC (thn (ha.run pos pins s σ H _ I h) fun us s1 ⟨vs, H1, I1, r1, v, ev, q1⟩ => ⟨I1.kIn, ?_⟩) hs hpl
  subst ev
  cases r1 with
  | @cons _ u _ ur rv rn =>
  cases rn
  show wpAny _ _ (call (.ref C) [u]) _ _ _
  obtain ⟨hp, g, dr, tk, os⟩ := s1
  have hz : hp.objs.size ≤ hp.objs.size + 1 := Nat.le_succ _
  generalize ha0 : hp.objs.size + 1 = a0 at hz
  have hn : H1 a0 = none := I1.hok.fresh hz
  have kk : ∀ b o, hp.get? b = some o → ((hp.push (PySem.W.kdv_tup [u])).push (PySem.HandSPX.excO C hp.objs.size)).get? b = some o := fun b o z => Heap.get?_push_of_some _ (Heap.get?_push_of_some _ z)
  have hget : ((hp.push (PySem.W.kdv_tup [u])).push (PySem.HandSPX.excO C hp.objs.size)).get? a0 = some (PySem.HandSPX.excO C hp.objs.size) := by
    subst ha0
    heap_get
  have I2 : Inv X pins σ (upd H1 a0 (exo a0 C none)) ⟨(hp.push (PySem.W.kdv_tup [u])).push (PySem.HandSPX.excO C hp.objs.size), g, dr, tk, os⟩ :=
    I1.laid (t' := tk) (a := a0) (o := exo a0 C none) kk hz (exo_ok hget)
  have hsp : spKeep C f [.ref a0, v] (upd H1 a0 (exo a0 C none)) (fun r H2 => r = .non ∧ ∃ d, H1 d = none ∧ d ≠ a0 ∧ H2 = upd (upd (upd H1 a0 (exo a0 C none)) d (exd d [(f, v)])) a0 (exo a0 C (some d))) C8.E0 :=
    ⟨a0, v, rfl, upd_same, fun d nd ne => ⟨rfl, d, by rwa [upd_ne ne] at nd, ne, rfl⟩⟩
  have r2 : Vals [V.ref a0, v] [Value.ref a0, u] := .cons rfl (.cons rv .nil)
  have hl : [Value.ref a0, u].length = ps.length := (F1.len _ _ _ _ hsp).symm ▸ rfl
  refine wpAny_call (PySem.HandSPX.call_own KB.F hbm (I1.kIn _ _ hC) (PySem.W.looks_findIn I1.kIn iC) (fun self => PySem.W.bind_fn I1.kIn self tI) (by simp [sizeLine_eq]) ?_)
  rw [show (⟨hp, g, dr, tk, os⟩ : Shared).heap.objs.size + 1 = a0 from ha0]
  refine codeAny_mono (F1.run _ X.stack _ _ ⟨[Value.ref a0, u], []⟩ [Value.ref a0, u] _ _ C8.E0 (hr.make C [u] []) (I2.env0.make C [u] []) (hb _ [Value.ref a0, u] I2.kIn hl) r2 hsp) fun r s2 hq => ?_
  cases r with
  | error er => exact hq.elim
  | ok fl =>
    cases fl with
    | next => exact hq.elim
    | brk => exact hq.elim
    | cont => exact hq.elim
    | ret u2 =>
      obtain ⟨v2, H2, os2, bare2, un2, hok2, rv2, ev, d, hd1, hne, eH⟩ := hq
      subst ev
      obtain ⟨h2, g2, d2, t2, os3⟩ := s2
      have ea : H2 a0 = some (exo a0 C (some d)) := by rw [eH, upd_same]
      have ed : H2 d = some (exd d [(f, v)]) := by rw [eH, upd_ne hne, upd_same]
      refine ⟨rv2, mk_end (raises_own T.exC T.tyC) I1 hz kk un2 hok2 os2 bare2 ea ed hd1 ?_⟩
      have e3 : upd (del H2 a0) d (.xd [(f, v)]) = upd H1 d (.xd [(f, v)]) := funext fun b => by
        by_cases hb1 : b = d
        · rw [hb1, upd_same, upd_same]
        · rw [upd_ne hb1, upd_ne hb1]
          by_cases hb2 : b = a0
          · rw [hb2, del_same, hn]
          · rw [del_ne hb2, eH, upd_ne hb2, upd_ne hb1, upd_ne hb2]
      rw [e3]
      exact q1 d hd1
end Z
set_option maxRecDepth 100000
set_option maxHeartbeats 1000000
namespace Z
open PySem PySem.Spec PyProof.Rows L2
theorem kb_Index : KBase "IndexError" "IndexError.__new__" "IndexError.__init__" [.type "IndexError", .type "LookupError", .type "Exception", .type "BaseException", .type "object"] :=
  ⟨PySem.F.excBase_IndexError, PySem.F.store_IndexError, by kernel_rfl, by decide +kernel, by decide +kernel, by decide +kernel⟩
theorem kb_Lookup : KBase "LookupError" "LookupError.__new__" "LookupError.__init__" [.type "LookupError", .type "Exception", .type "BaseException", .type "object"] :=
  ⟨PySem.F.excBase_LookupError, PySem.F.store_LookupError, by kernel_rfl, by decide +kernel, by decide +kernel, by decide +kernel⟩
theorem kb_Overflow : KBase "OverflowError" "OverflowError.__new__" "OverflowError.__init__" [.type "OverflowError", .type "ArithmeticError", .type "Exception", .type "BaseException", .type "object"] :=
  ⟨PySem.F.excBase_OverflowError, PySem.F.store_OverflowError, by kernel_rfl, by decide +kernel, by decide +kernel, by decide +kernel⟩
theorem kb_Arith : KBase "ArithmeticError" "ArithmeticError.__new__" "ArithmeticError.__init__" [.type "ArithmeticError", .type "Exception", .type "BaseException", .type "object"] :=
  ⟨PySem.F.excBase_ArithmeticError, PySem.F.store_ArithmeticError, by kernel_rfl, by decide +kernel, by decide +kernel, by decide +kernel⟩
theorem kb_Runtime : KBase "RuntimeError" "RuntimeError.__new__" "RuntimeError.__init__" [.type "RuntimeError", .type "Exception", .type "BaseException", .type "object"] :=
  ⟨PySem.F.excBase_RuntimeError, PySem.F.store_RuntimeError, by kernel_rfl, by decide +kernel, by decide +kernel, by decide +kernel⟩
end Z
set_option maxRecDepth 100000
set_option maxHeartbeats 1000000
namespace Z
open PySem PySem.Spec PyProof.Rows L2

/-! ## raise -/
@[simp] def sRaise (n : Str) (e : Ex) (σ : Sg) (S : Sto) : Option Flow := Sm.bnd (e σ S) fun _ S1 => some (.exc ⟨n, none⟩ S1)
@[simp] def sRaiseK (n f : Str) (as : Exs) (σ : Sg) (S : Sto) : Option Flow := Sm.bnd (as σ S) fun xs S1 => match xs with
  | [.d d] => some (.exc ⟨n, some (f, d)⟩ S1)
  | _ => none
/-- a class of errors with a message alone: what is written of it -/
structure MsgC (K : PySem.W.Frag) (mg : Str → Option Value) (n : Str) where
  C : Addr
  nsC : PySem.W.nsIn K mainGlobals n = some (some (.ref C))
  mgC : mg n = some (.ref C)
  ex : PySem.W.excIn K C [.type "ValueError", .type "Exception", .type "BaseException", .type "object"] "ValueError.__new__" = true
  kC : PySem.W.keepIn K (.ref C) = true
  exC : PySem.W.subIn K (.ref C) (.type "BaseException") = some true
  tyC : PySem.W.typeIn K (.ref C) = some (.type "type")
/-- a class of errors that keep one field -/
structure FldC (P : Program) (w : World) (K : PySem.W.Frag) (mg : Str → Option Value) (base : Heap) (n f : Str) where
  C : Addr
  B : String
  nid : String
  iid : String
  bmB : List Value
  nsC : PySem.W.nsIn K mainGlobals n = some (some (.ref C))
  mgC : mg n = some (.ref C)
  KB : KBase B nid iid bmB
  T : KeepC K C bmB nid
  fI : Addr
  iC : PySem.W.findIn K (.ref C) "__init__" = some (some (.ref fI))
  tI : PySem.W.typeIn K (.ref fI) = some (.type "function")
  fd : FuncData
  ps : List Str
  F1 : FnOk P w K mg base C8.CX0 1 fI fd ps (spKeep C f)
  hb : Binds K fd ps []
section
variable {X : Cx} {W : WX} {k : Nat} {a : Expr} {ea : Ex} {es : List Expr} {fs : Exs} {n f : Str} {p0 p1 pos : Pos}
theorem ds_raise (G : Gd X W k) (M : MsgC X.K X.mg n) (ha : DE X W a ea) (hg : Gl X n := by rfl) (hs : starEach [a] X.env = (false, eval a X.env) :: starEach [] X.env := by rfl) (hdb : (n == ("__debug__" : Str)) = false := by decide) :
    DS X W (.Raise (some (.Call (.Name n p0) [a] [] p1)) none pos) (sRaise n ea) :=
  ps_imp (ps_raise G.calm G.tk (SkE.pmk_own1 PySem.F.excBase_ValueError M.ex M.mgC M.kC (raises_own M.exC M.tyC) hg ha hs hdb)) fun D σV H ⟨fo, σ, S, r, hE, hS, hr, hf⟩ => by
    refine TX.stm hE hS hr hf fun v S1 u H1 h1 f1 s1 k1 e1 r1 => ?_
    cases h1
    exact XS.of (σV := σV) f1 _ _ H1 s1 (Kp.refl _ _) ⟨M.nsC, rfl⟩
theorem ds_raiseK (G : Gd X W k) (M : FldC X.prog X.w X.K X.mg X.base n f) (hk : 2 ≤ k) (ha : DA X W (a :: es) fs) (hg : Gl X n := by rfl) (hs : starEach (a :: es) X.env = (false, eval a X.env) :: starEach es X.env := by rfl) (hpl : (backTo p1 (starEach es X.env)).any (·.1) = false := by rfl) (hdb : (n == ("__debug__" : Str)) = false := by decide) :
    DS X W (.Raise (some (.Call (.Name n p0) (a :: es) [] p1)) none pos) (sRaiseK n f fs) :=
  ps_imp (ps_raise G.calm G.tk (pmk_keep M.KB M.T M.iC M.tI M.F1 (G.hr.mono hk) M.hb hg M.mgC ha hdb hs hpl)) fun D σV H ⟨fo, σ, S, r, hE, hS, hr, hf⟩ => by
    refine TXs.stm hE hS hr hf fun xs S1 vs H1 h1 f1 s1 k1 e1 r1 => ?_
    split at h1
    · rename_i d
      cases h1
      cases r1 with
      | cons r2 r3 =>
      cases r3
      refine ⟨_, rfl, fun q nq => ?_⟩
      exact XS.of (σV := σV) f1 _ _ _ (s1.laid nq) (Kp.new nq) ⟨M.nsC, q, _, rfl, upd_same, s1.free nq, Is.keep (Kp.new nq).q (Gr.refl _ _) r2⟩
    · cases h1
end
end Z
set_option maxRecDepth 100000
set_option maxHeartbeats 1000000
namespace Z
open PySem PySem.Spec PyProof.Rows L2

/-! ## try .. except X as n .. except Y as m .. -/
/-- D where slot i is forgotten behind the suite -/
def forget (i : Nat) (D : Ends) : Ends := { nx := fun τ H => D.nx (τ.set i none) H, rt := D.rt, bk := fun τ H => D.bk (τ.set i none) H, ct := fun τ H => D.ct (τ.set i none) H }
structure Cl where
  c : Value
  i : Nat
  ts : Addr → Value → Option Addr → TS
def wCl (K : PySem.W.Frag) (n : Nat) (Wo : WX) (D : Ends) : List Cl → WX
  | [] => Wo
  | q :: r => fun cls d σ H => ∃ b, PySem.W.exmOne K cls q.c = some b ∧ (b = true → σ.length = n → ∀ a, H a = none → q.ts a cls d (forget q.i D) (σ.set q.i (some (.ref a))) H) ∧ (b = false → wCl K n Wo D r cls d σ H)
inductive ClsOk (X : Cx) : List ExceptHandler → List Cl → Prop
  | nil : ClsOk X [] []
  | cons {x n : Str} {q : Cl} {b0 : Stmt} {su : List Stmt} {np hp : Pos} {hds : List ExceptHandler} {l : List Cl} (hc : Names X x q.c) (hi : X.N[q.i]? = some n) (hln : X.env.kindOf n = some .local)
      (hsu : ∀ (a : Addr) (oe : Obj) (cls : Value) (d : Option Addr) (pn : List (Addr × Obj)), Zc cls d oe → (∃ vs, oe.data = .fields vs) → PSs (X.suite a ((a, oe) :: pn)) (b0 :: su) (q.ts a cls d)) (r : ClsOk X hds l) :
      ClsOk X (.ExceptHandler (some (.Name x np)) (some n) (b0 :: su) hp :: hds) (q :: l)
section
variable {X : Cx} {pins : List (Addr × Obj)} {σ σ1 : L2.St} {H H1 : Hp} {s s1 sI : Shared} {B : Heap} {a : Addr} {cls : Value} {d : Option Addr} {D : Ends} {Wo : WX}
/-- the exception goes on -/
theorem goes_on (hs : X.stack = X.env :: X.outer) (hf : X.env.frame = some X.env.locals) (tk : Takes X Wo) (J : Inv X pins σ1 H1 sI) (nb : ∀ b o, sI.heap.get? b = some o → b ∉ frs X.stack → B.get? b = some o) {h3 : Heap} (up : sI.heap.UpToSlots h3)
    (fl : HandSPX.FlyingZ B (X.env :: X.outer) a (Zc cls d) h3) (na : H1 a = none) (os : s1.os = sI.os) (ag : AllBare s1.gens) (w : Wo cls d σ1 H1) : wpAny (model X.prog X.w) X.A (handleBy (.ref a) X.env []) (SP X pins D) X.xe { s1 with heap := h3 } := by
  refine wpAny_handleBy_nil ?_
  obtain ⟨_, _, _, oe, vs, T, oT, ts2, he, hz, hd, e1, hr⟩ := id fl
  unfold PySem.passOn
  refine wpAny_bind (wpAny_field he hd e1 ?_)
  rw [if_neg (show ¬ ((Value.ref T == Value.none) = true) from by simp)]
  have last : wpAny (model X.prog X.w) X.A (setFlight (.ref a) X.env.frame) (fun _ s4 => wpAny (model X.prog X.w) X.A (throw (.ref a) : Sem PySem.Flow) (SP X pins D) X.xe s4) X.xe { s1 with heap := h3 } := by
    rw [hf]
    refine HandSPX.setFlight_upZ fl fun h4 hh4 up4 => wpAny_throw (tk _ _ ?_)
    exact ⟨a, B, sI, pins, σ1, H1, cls, d, rfl, J, nb, up.trans up4, .inr (.inr (hs ▸ hh4)), na, os, ag, w⟩
  first
    | exact wpAny_bind (wpAny_pure (wpAny_bind last))
    | exact wpAny_bind last
theorem ps_clauses {body : List Stmt} {h0 : ExceptHandler} {hds : List ExceptHandler} {l : List Cl} {pos : Pos} {tb : WX → TS} (hs : X.stack = X.env :: X.outer) (hf : X.env.frame = some X.env.locals) (hN : X.N.Nodup) (tk : Takes X Wo)
    (hb : ∀ (W : WX) (pn : List (Addr × Obj)) (xe : Value → Shared → Prop), Takes (X.tr pn xe) W → PassesOwn (model X.prog X.w) X.A X.env xe → PSs (X.tr pn xe) body (tb W))
    (hh : ClsOk X (h0 :: hds) l) : PS X (.Try body (h0 :: hds) [] [] pos) (fun D σ H => tb (wCl X.K X.N.length Wo D l) D σ H) := by
  refine ⟨fun pins s σ H D I h => ?_⟩
  have ok := I.ok
  have hfr : X.A.frames = some (X.env :: X.outer) := by rw [ok.frames, hs]
  refine wpAny_Try_except ?_
  have run := (hb (wCl X.K X.N.length Wo D l) (X.pn ++ pins) (fun e s1 => wpAny (model X.prog X.w) X.A (noteFrame e X.env) (fun _ s2 => wpAny (model X.prog X.w) X.A (setFlight e none) (fun _ s3 => wpAny (model X.prog X.w) X.A (handleBy e X.env (h0 :: hds)) (SP X pins D) X.xe s3) X.xe s2) X.xe s1) (fun u s2 xx => ?_) PassesOwn.looking).run [] s σ H D (I.toTry _) h
  · refine wpAny_mono run (fun fl s1 hsp => ?_) (fun e s1 he => he)
    cases fl with
    | next =>
      obtain ⟨τ, H2, J, q⟩ := hsp
      exact wpAny_execs_nil ⟨τ, H2, J.ofTry ok, q⟩
    | brk =>
      obtain ⟨τ, H2, J, q⟩ := hsp
      exact ⟨τ, H2, J.ofTry ok, q⟩
    | cont =>
      obtain ⟨τ, H2, J, q⟩ := hsp
      exact ⟨τ, H2, J.ofTry ok, q⟩
    | ret u =>
      obtain ⟨v, τ, H2, J, r, q⟩ := hsp
      exact ⟨v, τ, H2, J.ofTry ok, r, q⟩
  obtain ⟨a, B, sI, pn2, σ1, H1, cls, d, rfl, J2, nb, up, sky, na, os, ag, w⟩ := xx
  have J : Inv X pins σ1 H1 sI := J2.ofTry ok
  show wpAny (model X.prog X.w) X.A (noteFrame (.ref a) X.env) _ _ _
  have sky2 : Sky B (X.env :: X.outer) a (Zc cls d) X.env.locals s2.heap := hs ▸ sky
  refine Sky.land Zc.steady hfr hf sky2 fun h3 fl3 up3 => ?_
  have J3 : Inv X pins σ1 H1 { s2 with heap := h3 } := J.landed nb fl3.1 (up.trans up3) os ag
  obtain ⟨oe3, vs3, he3, hz3, hd3⟩ := fl3.there
  have nfr : a ∉ frs (X.env :: X.outer) := fun hm => by
    obtain ⟨_, o2, e2, hnf⟩ := fl3.2.2.1.mem hm
    rw [he3] at e2
    cases e2
    exact hnf _ hd3
  have nL : a ≠ X.env.locals := fun z => nfr (List.mem_filterMap.mpr ⟨X.env, List.mem_cons_self, z ▸ hf⟩)
  have nF : a ∉ X.fs := fun hm => by
    obtain ⟨e, he, q⟩ := List.mem_filterMap.mp hm
    exact nfr (List.mem_filterMap.mpr ⟨e, List.mem_cons_of_mem _ he, q⟩)
  have S3 := J3.suite he3 hd3 na nL nF
  have LT : PySem.W.Looks (model X.prog X.w) h3 (typeOf (.ref a)) cls := fun A Q E s k q => wpAny_typeOf_ref (k _ _ he3) (by rw [hz3.1]; exact q)
  have go : ∀ {hs2 : List ExceptHandler} {l2 : List Cl}, ClsOk X hs2 l2 → wCl X.K X.N.length Wo D l2 cls d σ1 H1 → wpAny (model X.prog X.w) X.A (handleBy (.ref a) X.env hs2) (SP X pins D) X.xe { s2 with heap := h3 } := by
    intro hs2 l2 hk
    induction hk with
    | nil => exact fun w => goes_on hs hf tk J nb (up.trans up3) fl3 na os ag w
    | @cons x n q b0 su np hp hds3 l3 hc hi hln hsu r ih =>
      rintro ⟨b, hb1, hyes, hno⟩
      refine wpAny_handleBy_cons (codeAny_handlers_test ?_) (by intro z; cases z)
      have test : ∀ {Q : Value → Shared → Prop} {E : Value → Shared → Prop}, Q q.c { s2 with heap := h3 } → wpAny (model X.prog X.w) (X.A.mark (some (.ref a))) (eval (.Name x np) X.env) Q E { s2 with heap := h3 } := fun {Q E} z => by
        obtain ⟨hg, hdb, hm | ⟨hm, hv, hnn⟩⟩ := hc
        · exact ld_glob (X := X.suite a ((a, oe3) :: (X.pn ++ pins))) S3 hg hm z hdb
        · exact ld_blt (X := X.suite a ((a, oe3) :: (X.pn ++ pins))) S3 hg hm hv z hnn hdb
      refine test ((PySem.W.exm_one (M := model X.prog X.w) (J3.kIn) LT hb1).here ?_)
      cases b with
      | false =>
        show wpAny _ X.A (handleBy (.ref a) X.env hds3) _ _ _
        exact ih (hno rfl)
      | true =>
        refine codeAny_handlers_suite_as ?_
        refine HandSPX.lands_againZ fl3 fun h4 fl4 up4 => ?_
        have J4 : Inv X pins σ1 H1 { s2 with heap := h4 } := J.landed nb fl4.1 ((up.trans up3).trans up4) os ag
        obtain ⟨oe4, vs4, he4, hz4, hd4⟩ := fl4.there
        have S4 := J4.suite he4 hd4 na nL nF
        refine store_ok (X := X.suite a ((a, oe4) :: (X.pn ++ pins))) (v := .ref a) S4 hN hi (.inl hln) rfl (fun s5 S5 => ?_) (.inr hln)
        refine wpAny_mono ((hsu a oe4 cls d (X.pn ++ pins) hz4 ⟨_, hd4⟩).run [] s5 _ H1 _ S5 (hyes rfl J.len a na)) (fun fl s6 hsp => ?_) (fun _ _ z => z.elim)
        have ended : ∀ {τ : L2.St} {H6 : Hp} {Q : Shared → Prop}, Inv (X.suite a ((a, oe4) :: (X.pn ++ pins))) [] τ H6 s6 → (∀ s7, Inv X pins (τ.set q.i none) H6 s7 → Q s7) →
            wpAny (model X.prog X.w) X.A (do bindName X.env n .none; unbindBehindTheSuite X.env n hp) (fun _ s7 => Q s7) X.xe s6 := fun {τ H6 Q} S6 hq => gone_ok (S6.unsuite ok) hN hi hln hq
        cases fl with
        | next =>
          obtain ⟨τ, H6, S6, q6⟩ := hsp
          exact ended S6 fun s7 J7 => ⟨_, _, J7, q6⟩
        | brk =>
          obtain ⟨τ, H6, S6, q6⟩ := hsp
          exact ended S6 fun s7 J7 => ⟨_, _, J7, q6⟩
        | cont =>
          obtain ⟨τ, H6, S6, q6⟩ := hsp
          exact ended S6 fun s7 J7 => ⟨_, _, J7, q6⟩
        | ret u =>
          obtain ⟨v6, τ, H6, S6, r6, q6⟩ := hsp
          exact ended S6 fun s7 J7 => ⟨_, _, _, J7, r6, q6⟩
  exact go hh w
end
end Z
set_option maxRecDepth 100000
set_option maxHeartbeats 1000000
namespace Z
open PySem PySem.Spec PyProof.Rows L2

/-! ## try, by meanings -/
structure CD where
  i : Nat
  sub : Str → Option Bool
  m : Addr → Value → Option Addr → Sm
def forgetF (i : Nat) : Flow → Option Flow
  | .nx τ S => some (.nx (τ.set i none) S)
  | .bk τ S => some (.bk (τ.set i none) S)
  | .ct τ S => some (.ct (τ.set i none) S)
  | .rt v S => some (.rt v S)
  | .exc _ _ => none
open Classical in
/-- a suite, whatever address the error has -/
noncomputable def runK (n i : Nat) (m : Addr → Value → Option Addr → Sm) (x : Exn) (S : Sto) : Option Flow :=
  if h : ∃ r, ∀ a cls d, (m a cls d ((List.replicate n none).set i (some (.k a x cls d))) S).bind (forgetF i) = some r then some h.choose else none
theorem runK_eq {n i : Nat} {m : Addr → Value → Option Addr → Sm} {x : Exn} {S : Sto} {r : Flow} (h : ∀ a cls d, (m a cls d ((List.replicate n none).set i (some (.k a x cls d))) S).bind (forgetF i) = some r) : runK n i m x S = some r := by
  have e : ∃ r, ∀ a cls d, (m a cls d ((List.replicate n none).set i (some (.k a x cls d))) S).bind (forgetF i) = some r := ⟨r, h⟩
  unfold runK
  rw [dif_pos e]
  have h2 := e.choose_spec (0 : Nat) .none none
  rw [h] at h2
  exact h2.symm
theorem runK_at {n i : Nat} {m : Addr → Value → Option Addr → Sm} {x : Exn} {S : Sto} {r : Flow} (h : runK n i m x S = some r) (a : Addr) (cls : Value) (d : Option Addr) : (m a cls d ((List.replicate n none).set i (some (.k a x cls d))) S).bind (forgetF i) = some r := by
  unfold runK at h
  split at h
  · rename_i e
    cases h
    exact e.choose_spec a cls d
  · cases h
noncomputable def pickC (n : Nat) (x : Exn) (S : Sto) : List CD → Option Flow
  | [] => some (.exc x S)
  | q :: r => match q.sub x.cls with
    | some true => runK n q.i q.m x S
    | some false => pickC n x S r
    | none => none
@[simp] noncomputable def sTry (n : Nat) (body : Sm) (l : List CD) (σ : Sg) (S : Sto) : Option Flow := match body σ S with
  | some (.exc x S1) => pickC n x S1 l
  | r => r
inductive ClsD (X : Cx) : List ExceptHandler → List CD → Prop
  | nil : ClsD X [] []
  | cons {x nm : Str} {c : Value} {q : CD} {b0 : Stmt} {su : List Stmt} {np hp : Pos} {hds : List ExceptHandler} {l : List CD} (hc : Names X x c) (hi : X.N[q.i]? = some nm) (hln : X.env.kindOf nm = some .local)
      (hk : ∀ y cls b, PySem.W.nsIn X.K mainGlobals y = some (some cls) → q.sub y = some b → PySem.W.exmOne X.K cls c = some b)
      (hsu : ∀ (a : Addr) (oe : Obj) (cls : Value) (d : Option Addr) (pn : List (Addr × Obj)), Zc cls d oe → (∃ vs, oe.data = .fields vs) → DB (X.suite a ((a, oe) :: pn)) W0 (b0 :: su) (q.m a cls d)) (r : ClsD X hds l) :
      ClsD X (.ExceptHandler (some (.Name x np)) (some nm) (b0 :: su) hp :: hds) (q :: l)
theorem EnvR.drop {K : PySem.W.Frag} {f : Ow} {H : Hp} {τV : L2.St} {τ : Sg} (h : EnvR K f H τV τ) (i : Nat) : EnvR K f H (τV.set i none) (τ.set i none) :=
  ⟨by rw [List.length_set, List.length_set]; exact h.len, fun j x e => by
    by_cases hj : i = j
    · subst hj
      by_cases hl : i < τ.length
      · rw [List.getElem?_set_self hl] at e
        cases e
      · rw [List.getElem?_eq_none (by rw [List.length_set]; omega)] at e
        cases e
    · rw [List.getElem?_set_ne hj] at e ⊢
      exact h.get j x e⟩
section
variable {X : Cx} {W : WX} {k : Nat}
theorem EnvR.only {K : PySem.W.Frag} {f : Ow} {H : Hp} {τV : L2.St} {n i : Nat} {a : Addr} {x : Exn} {cls : Value} {d : Option Addr} (hl : τV.length = n) (hi : i < n) (h : ExR K f H cls d x) :
    EnvR K f H (τV.set i (some (.ref a))) ((List.replicate n none).set i (some (.k a x cls d))) :=
  ⟨by simp [hl], fun j y e => by
    by_cases hj : i = j
    · subst hj
      rw [List.getElem?_set_self (by simpa using hi)] at e
      cases e
      exact ⟨_, List.getElem?_set_self (by omega), rfl, h⟩
    · rw [List.getElem?_set_ne hj, List.getElem?_replicate] at e
      split at e <;> cases e⟩
theorem ds_try {body : List Stmt} {mb : Sm} {h0 : ExceptHandler} {hds : List ExceptHandler} {l : List CD} {pos : Pos} (G : Gd X W k) (hs : X.stack = X.env :: X.outer) (hf : X.env.frame = some X.env.locals)
    (hb : ∀ (W2 : WX) (pn : List (Addr × Obj)) (xe : Value → Shared → Prop), Gd (X.tr pn xe) W2 k → DB (X.tr pn xe) W2 body mb) (hh : ClsD X (h0 :: hds) l) : DS X W (.Try body (h0 :: hds) [] [] pos) (sTry X.N.length mb l) := by
  have conv : ∀ {hs : List ExceptHandler} {l : List CD}, ClsD X hs l → ∃ l2 : List Cl, ClsOk X hs l2 ∧ ∀ (f : Ow) (H H2 : Hp) (D : Ends) (x : Exn) (S1 : Sto) (r : Flow) (ex : List Addr) (cls : Value) (d : Option Addr) (σV : L2.St), pickC X.N.length x S1 l = some r → Fl X W f H D r →
      (∀ a ∈ ex, H a = none) → StoR X.K (f.add ex) S1 H2 → Kp f H H2 → ExR X.K (f.add ex) H2 cls d x → wCl X.K X.N.length W D l2 cls d σV H2 := by
    intro hs l h
    induction h with
    | nil => exact ⟨[], .nil, fun f H H2 D x S1 r ex cls d σV e hf n1 s1 k1 r1 => by
        cases e
        exact hf ex cls d σV H2 n1 s1 k1 r1⟩
    | @cons x0 nm c q b0 su np hp hds l hc hi hln hk hsu r ih =>
      obtain ⟨l2, h1, h2⟩ := ih
      refine ⟨⟨c, q.i, fun a cls d => TS_ X W0 (q.m a cls d)⟩ :: l2, .cons hc hi hln (fun a oe cls d pn hz hv => hsu a oe cls d pn hz hv) h1, fun f H H2 D x S1 r ex cls d σV e hf n1 s1 k1 r1 => ?_⟩
      unfold pickC at e
      cases eb : q.sub x.cls with
      | none => rw [eb] at e; cases e
      | some b =>
      rw [eb] at e
      refine ⟨b, hk _ _ _ r1.1 eb, fun hb hl a na => ?_, fun hb => ?_⟩
      · subst hb
        have e := runK_at e a cls d
        cases e2 : q.m a cls d ((List.replicate X.N.length none).set q.i (some (.k a x cls d))) S1 with
        | none => rw [e2] at e; cases e
        | some r2 =>
        rw [e2] at e
        refine ⟨f.add ex, _, S1, r2, EnvR.only hl (List.getElem?_eq_some_iff.mp hi).1 r1, s1, e2, ?_⟩
        have hf2 := Fl.step hf n1 s1 k1
        cases r2 with
        | nx τ S2 =>
          cases e
          exact fun ex2 τV H3 n3 s3 k3 e3 => hf2 ex2 _ H3 n3 s3 k3 (e3.drop _)
        | bk τ S2 =>
          cases e
          exact fun ex2 τV H3 n3 s3 k3 e3 => hf2 ex2 _ H3 n3 s3 k3 (e3.drop _)
        | ct τ S2 =>
          cases e
          exact fun ex2 τV H3 n3 s3 k3 e3 => hf2 ex2 _ H3 n3 s3 k3 (e3.drop _)
        | rt v S2 =>
          cases e
          exact hf2
        | exc y S2 => cases e
      · subst hb
        exact h2 f H H2 D x S1 r ex cls d σV e hf n1 s1 k1 r1
  obtain ⟨l2, h1, h2⟩ := conv hh
  refine ps_imp (ps_clauses hs hf G.nd G.tk (tb := fun W2 => TS_ X W2 mb) (fun W2 pn xe tk po => hb W2 pn xe ⟨G.hr, G.gd, G.calm, G.nd, tk, po⟩) h1) fun D σV H ⟨f, σ, S, r, hE, hS, hr, hf⟩ => ?_
  unfold sTry at hr
  cases e : mb σ S with
  | none => rw [e] at hr; cases hr
  | some r0 =>
  rw [e] at hr
  refine ⟨f, σ, S, r0, hE, hS, e, ?_⟩
  cases r0 with
  | exc x S1 => exact fun ex cls d σV2 H2 n1 s1 k1 r1 => h2 f H H2 D x S1 r ex cls d σV2 hr hf n1 s1 k1 r1
  | nx => cases hr; exact hf
  | rt => cases hr; exact hf
  | bk => cases hr; exact hf
  | ct => cases hr; exact hf
end
end Z
set_option maxRecDepth 100000
set_option maxHeartbeats 1000000
namespace Z
open PySem PySem.Spec PyProof.Rows L2

/-! ## what a suite may ask of the caught error -/
theorem Gd.suite {X : Cx} {W : WX} {k : Nat} (g : Gd X W k) (a : Addr) (pn : List (Addr × Obj)) : Gq (X.suite a pn) := ⟨g.q.un, g.gd, g.nd⟩
/-- a class of errors as isinstance asks its instances -/
structure IsC (K : PySem.W.Frag) (D : Addr) : Prop where
  cl : (PySem.W.clsIn K D).isSome = true
  ga : PySem.W.findIn K (.ref D) "__getattribute__" = some (some (.builtin "BaseException.__getattribute__"))
  gg : PySem.W.findIn K (.ref D) "__getattr__" = some none
  sb : PySem.W.subIn K (.ref D) (.type "BaseException") = some true
  hd : PySem.W.hasDictIn K D = true
  ha : PySem.W.findIn K (.ref D) "__class__" = some (some (.builtin "object.__class__"))
  hn : PySem.W.specialIn K (.builtin "object.__class__") "__get__" = some (some (.builtin "getset_descriptor.__get__"))
  ht : PySem.W.takesIn K (.builtin "object.__class__") = some true
  hm : PySem.W.mroIn K D (.type "object") = some true
/-- a class as a value -/
def ClV (c : V) (cv : Value) : Prop := ∀ u, RelV c u → u = cv
def rIsX (K : PySem.W.Frag) (a : Addr) (cls : Value) (d : Option Addr) : List V → Hp → VK → Prop := fun xs H Q => ∃ (D : Addr) (c : V) (cv : Value) (b : Bool), xs = [.ref a, c] ∧ cls = .ref D ∧ IsC K D ∧ ClV c cv ∧ PySem.W.kitOne K (.ref D) cv = some b ∧ (d = none ∨ ∃ da fs, d = some da ∧ H da = some (.xd fs)) ∧ Q (.bl b) H
theorem call_isX {X : Cx} {a : Addr} {oe : Obj} {cls : Value} {d : Option Addr} {pn : List (Addr × Obj)} (hz : Zc cls d oe) (hf : ∃ vs, oe.data = .fields vs) : CallR (X.suite a ((a, oe) :: pn)) (.builtin "isinstance") (rIsX X.K a cls d) := by
  intro pins s σ H xs us Q I r ⟨D, c, cv, b, e1, e2, T, hcv, hk, hd, q⟩
  subst e1 e2
  cases r with
  | cons rx rr =>
  cases rr with
  | cons rt rr =>
  cases rr
  cases rx
  have ec := hcv _ rt
  subst ec
  obtain ⟨hget, _⟩ := I.pin (a, oe) (List.mem_append.mpr (.inl List.mem_cons_self))
  obtain ⟨vs, hv⟩ := hf
  have J : ∃ od, PySem.W.InstAt s.heap a oe D od := by
    rcases hd with hd | ⟨da, fs, hd, hH⟩
    · subst hd
      exact ⟨none, hget, hz.1, by unfold PySem.W.notCls; rw [hv] <;> rfl, by rw [hz.2]; exact trivial⟩
    · subst hd
      obtain ⟨mA, hns, _⟩ : ObjOk X.prog X.w H s.heap da (.xd fs) := I.hok da _ hH
      obtain ⟨od, ho, _⟩ := lookIn_ns hns
      exact ⟨some od, hget, hz.1, by unfold PySem.W.notCls; rw [hv] <;> rfl, by rw [hz.2]; exact ho⟩
  obtain ⟨od, J⟩ := J
  exact PySem.W.kia_one (PySem.W.kitx_exc T.cl T.ga T.gg T.sb T.ha T.hn T.ht T.hm) I.kIn J hk (fun z => nomatch z) fun tk => ⟨.bl b, H, I.kept (t' := tk) fun _ _ z => z, rfl, q⟩
open Classical in
/-- isinstance(e, C), e caught -/
@[simp] noncomputable def eIsX (a : Addr) (cls : Value) (d : Option Addr) (sub : Str → Option Bool) (ea : Ex) (σ : Sg) (S : Sto) : Option (Res SV) := Res.bnd (ea σ S) fun v S1 => match v with
  | .k a2 x c2 d2 => if a2 = a ∧ c2 = cls ∧ d2 = d then (sub x.cls).map fun b => .ok (.d (.bool b)) S1 else none
  | _ => none
open Classical in
/-- e.f, e caught -/
@[simp] noncomputable def eFld (a : Addr) (cls : Value) (d : Option Addr) (f : Str) (ok : Str → Bool) (ea : Ex) (σ : Sg) (S : Sto) : Option (Res SV) := Res.bnd (ea σ S) fun v S1 => match v with
  | .k a2 x c2 d2 => if a2 = a ∧ c2 = cls ∧ d2 = d ∧ ok x.cls = true then match x.fld with
      | some (n, dd) => if n = f then some (.ok (.d dd) S1) else none
      | none => none
    else none
  | _ => none
section
variable {X : Cx} {W : WX} {a : Addr} {oe : Obj} {cls : Value} {d : Option Addr} {pn : List (Addr × Obj)} {e : Expr} {ee : Ex} {y : Str} {c : V} {cv : Value} {sub : Str → Option Bool} {p0 p1 pos : Pos}
theorem de_isX (hz : Zc cls d oe) (hf : ∃ vs, oe.data = .fields vs) (hm : X.mg "isinstance" = none) (he : DE (X.suite a ((a, oe) :: pn)) W e ee) (hc : PE (X.suite a ((a, oe) :: pn)) (.Name y p1) (tC c)) (hcv : ClV c cv)
    (hk : ∀ z u b, PySem.W.nsIn X.K mainGlobals z = some (some u) → sub z = some b → ∃ D, u = .ref D ∧ IsC X.K D ∧ PySem.W.kitOne X.K (.ref D) cv = some b)
    (hg : Gl X "isinstance" := by rfl)
    (h1 : starEach [e, .Name y p1] X.env = (false, eval e X.env) :: starEach [.Name y p1] X.env := by rfl) (h2 : starEach [.Name y p1] X.env = (false, eval (.Name y p1) X.env) :: starEach [] X.env := by rfl)
    (hpl : (backTo pos (starEach [.Name y p1] X.env)).any (·.1) = false := by rfl) : DE (X.suite a ((a, oe) :: pn)) W (.Call (.Name "isinstance" p0) [e, .Name y p1] [] pos) (eIsX a cls d sub ee) :=
  pe_imp (pe_callB (call_isX hz hf) hg hm PyProof.Rows.boot_isinstance (pa_cons he (pa_cons hc pa_nil h2) h1) (he := h1) (hpl := hpl)) fun σV H Q ⟨fo, σ, S, r, hE, hS, hr, hq⟩ => by
    refine TX.first hE hS hr (exc_way hq) fun v S1 vy H1 _ h1 s1 k1 e1 r1 => ?_
    split at h1
    · rename_i a2 x c2 d2 hev
      split at h1
      · rename_i hh
        obtain ⟨rfl, rfl, rfl⟩ := hh
        cases eb : sub x.cls with
        | none => rw [eb] at h1; cases h1
        | some b =>
        rw [eb] at h1
        cases h1
        obtain ⟨rv, rns, rf⟩ := r1
        subst rv
        obtain ⟨D, ec, T, ek⟩ := hk _ _ _ rns eb
        refine ⟨D, c, cv, b, rfl, ec, T, hcv, ek, ?_, hq _ H1 s1 k1 (Is.bl _)⟩
        cases ef : x.fld with
        | none =>
          rw [ef] at rf
          exact .inl rf
        | some q =>
          obtain ⟨n, dd⟩ := q
          rw [ef] at rf
          obtain ⟨da, u, e2, e3, _⟩ := rf
          exact .inr ⟨da, _, e2, e3⟩
      · cases h1
    · cases h1
theorem de_fld {f : Str} {ok : Str → Bool} (hz : Zc cls d oe) (hf : ∃ vs, oe.data = .fields vs) {C : Addr} (hC : ∀ z u, PySem.W.nsIn X.K mainGlobals z = some (some u) → ok z = true → u = .ref C) (T : XfC X.K C) (hno : PySem.W.findIn X.K (.ref C) f = some none) (he : DE (X.suite a ((a, oe) :: pn)) W e ee)
    (hb : attributeBase e f X.env (eval e X.env) = eval e X.env := by rfl) : DE (X.suite a ((a, oe) :: pn)) W (.Attribute e f pos) (eFld a cls d f ok ee) :=
  pe_imp (pe_xf T hno hz hf he hb) fun σV H Q ⟨fo, σ, S, r, hE, hS, hr, hq⟩ => by
    refine TX.first hE hS hr (exc_way hq) fun v S1 vy H1 _ h1 s1 k1 e1 r1 => ?_
    split at h1
    · rename_i a2 x c2 d2 hev
      split at h1
      · rename_i hh
        obtain ⟨rfl, rfl, rfl, hok⟩ := hh
        cases ef : x.fld with
        | none =>
          rw [ef] at h1
          cases h1
        | some q =>
          obtain ⟨n, dd⟩ := q
          rw [ef] at h1
          dsimp only at h1
          split at h1
          · rename_i hn
            subst hn
            cases h1
            obtain ⟨rv, rns, rf⟩ := r1
            rw [ef] at rf
            obtain ⟨da, u, e2, e3, e4, e5⟩ := rf
            exact ⟨rv, hC _ _ rns hok, da, _, u, e2, e3, by simp [List.lookup], hq _ H1 s1 k1 e5⟩
          · cases h1
      · cases h1
    · cases h1
end
end Z
set_option maxRecDepth 100000
set_option maxHeartbeats 2000000
namespace Z
open PySem PySem.Spec PyProof.Rows L2 LamX

/-! ## a lambda without parameters, called where it was handed to -/
section
variable {X : Cx} {pins : List (Addr × Obj)} {σ : L2.St} {H : Hp} {s : Shared}
abbrev lamNm (X : Cx) : Str := X.env.qual ++ "<lambda>"
abbrev lamOb (X : Cx) (params : Arguments) (body : Expr) (scope : Scope) (pm : Value) (c2 : Addr) (ctv : Value) : Obj := PySem.W.kla_obj "<lambda>" (lamNm X) params body scope (cloFrom X.env.cells scope.names []) pm c2 ctv
theorem pe_thunk {CXg : CXT} {Eg : XK} {Ng : List Str} {qg : Str} {sg : Scope} {g f c2 : Addr} {cdg pm ctv : Value} {params : Arguments} {body : Expr} {scope : Scope} {k i : Nat} {nm : Str} {pn : List (Addr × Obj)} {xe : Value → Shared → Prop} {W : WX} {E : XK} {tb : TE} {p1 p2 : Pos}
    (I : Inv X pins σ H s) (L : LamS X.env.scope scope) (hf : s.heap.get? f = some (lamOb X params body scope pm c2 ctv)) (hfn : H f = none) (hfr : f ∉ frs X.stack)
    (hbind : bindArgs (PySem.W.kla_fn "<lambda>" (lamNm X) params body scope (cloFrom X.env.cells scope.names []) pm (.ref c2) ctv) ⟨[], []⟩ = pure [])
    (tk : Takes ((cxOf CXg X.prog X.w X.K X.mg X.base Ng qg sg g cdg X.A X.stack s H Eg).tr pn xe) W) (hW : ∀ cls d τ H2, E cls d H2 → W cls d τ H2) (hr : Room (k + 1) (X.A.deeper (envOfC qg sg s.heap.objs.size g cdg))) (hgd : X.A.guards = some [])
    (hbody : ∀ (A : Around) (outer : List Env) (s : Shared) (H : Hp), Room k (A.deeper (lamEnv X scope s.heap.objs.size f c2)) → A.guards = some [] → PE (lamCx X A outer s H E scope f c2) body tb)
    (hN : Ng[i]? = some nm) (hv : Vis sg nm) (hd : (nm == ("__debug__" : Str)) = false := by decide) (hcd : (nm == ("__classdict__" : Str)) = false := by decide) :
    PE ((cxOf CXg X.prog X.w X.K X.mg X.base Ng qg sg g cdg X.A X.stack s H Eg).tr pn xe) (.Call (.Name nm p1) [] [] p2)
      (fun σZ HZ Q => σZ[i]? = some (some (.ref f)) ∧ HZ c2 = some (CodeO c2 (lamNm X)) ∧ tb σ HZ Q) := by
  refine ⟨fun pinsZ sZ σZ HZ Q IZ ⟨hs, hc, ht⟩ => ?_⟩
  have first := (pe_var (pos := p1) (i := i) hN hv hd hcd).run pinsZ sZ σZ HZ (fun v H1 => v = .ref f ∧ H1 = HZ) IZ ⟨.ref f, hs, rfl, rfl⟩
  refine wpAny_Call_Name_kw (thn first fun u s1 ⟨v, H1, I1, r1, ev, eH⟩ => ?_)
  subst ev eH
  obtain rfl : u = Value.ref f := r1
  have of1 : s1.heap.get? f = some (lamOb X params body scope pm c2 ctv) := I1.base.keep f _ hf hfn hfr (fun z => nomatch (show f ∈ ([] : List Addr) from z))
  refine PySem.W.callWith_F0 ⟨_, _, _, _, of1⟩ ?_
  have un : Un (frs X.stack) [] H H1 s.heap s1.heap := I1.base
  obtain ⟨⟨oc, vs, t, hoc, hdc, hvc⟩, _, _⟩ := I1.hok c2 _ hc
  have hx : Passes (L2.CX X.prog X.w) ((cxOf CXg X.prog X.w X.K X.mg X.base Ng qg sg g cdg X.A X.stack s H Eg).tr pn xe) E := passes_call tk hW
  have inner : codeAny (model X.prog X.w) (X.A.deeper (envOfC qg sg s.heap.objs.size g cdg)) (.call (.ref f) ⟨[], []⟩) (CR (L2.CX X.prog X.w) (envOfC qg sg s.heap.objs.size g cdg :: X.stack) X.prog X.w H1 s1 Q E) s1 := by
    refine PySem.W.kla_callFunE hr.depth of1 rfl L.co L.gen rfl ⟨c2, oc, vs, t, rfl, hoc, hdc, hvc⟩ ?_
    rw [hbind]
    refine wpAny_pure (wpAny_newFunctionEnv (fun y hy => (L.own y hy).2) (fun y hy => absurd hy (by simp)) (fun h1 hns hsb => ⟨I1.nolimit.fresh _ hsb, ?_⟩) L.kind)
    show codeAny _ _ (.expr body (lamEnv X scope s1.heap.objs.size f c2)) _ _
    have kp : ∀ b o, s1.heap.get? b = some o → h1.get? b = some o := fun b o e => hsb.extBut b o (Nat.ne_of_lt (Heap.lt_size e)) (Heap.get?_push_of_some _ e)
    have J := lam_start2 (E := E) (f := f) (c' := c2) (tk := s1.toks + ([] : List (Str × Value)).length) I L I1.env0 hr.hd un hns kp
    refine PySem.W.kla_codeExpr (wpAny_mono ((hbody _ _ s1 H1 (hr.deeper _) hgd).run [] _ _ H1 Q J ht) (fun v s2 ⟨w2, H2, J2, rv, q⟩ => ?_) fun e s2 hq => hq)
    exact ⟨w2, H2, J2.os, J2.bare, J2.base, J2.hok, rv, q⟩
  refine wpAny_call (codeAny_mono inner fun r s2 hq => ?_)
  cases r with
  | error e => exact hx pinsZ σZ H1 s1 e s2 I1 hq
  | ok fl =>
    cases fl with
    | ret u => exact I1.after hq
    | next => exact False.elim hq
    | brk => exact False.elim hq
    | cont => exact False.elim hq
/-- a lambda is made: its code object is new, or found in its maker's table -/
theorem lam_made {fo : Ow} {S : Sto} {i : Nat} {c P : Addr} {params : Arguments} {body : Expr} {scope : Scope} {pos : Pos} {E : Value → Shared → Prop} {Q : Value → Shared → Prop} (I : Inv X pins σ H s) (TB : TabB X.base X.mg c P) (hcode : X.env.code = .ref c)
    (hS : StoR X.K fo S H) (ht : S[i]? = some (.tab (lamNm X) P)) (hdef : defaultsOf params X.env = ([], [])) (hfree : ∀ y ∈ scope.names, y.2 = .free → ∃ c, X.env.cells.lookup y.1 = some c)
    (h : ∀ (f c2 : Addr) (pm ctv : Value) (H1 : Hp) (s1 : Shared), Inv X pins σ H1 s1 → StoR X.K fo S H1 → Kp fo H H1 → s1.heap.get? f = some (lamOb X params body scope pm c2 ctv) → H1 f = none → f ∉ frs X.stack → H1 c2 = some (CodeO c2 (lamNm X)) → fo.nx c2 → Q (.ref f) s1) :
    wpAny (model X.prog X.w) X.A (eval (.Lambda params body scope pos) X.env) Q E s := by
  obtain ⟨p0, ep⟩ := hS.has ht
  obtain ⟨e0, ps, hP, htr, hall⟩ := hS.at_ i _ p0 ht ep
  subst e0
  refine PySem.W.kla_eval hdef ?_
  have bP : s.heap.BuiltinsAt X.mg p0 := TB.bm.keeps I.bk
  have hP2 : s.heap.get? p0 = some { cls := .none, data := .fields ps } := I.hok p0 _ hP
  have nofr : ∀ f, s.heap.objs.size ≤ f → f ∉ frs X.stack := fun f hf z => by
    rcases List.mem_cons.mp (I.stkSub _ z) with e | e
    · have hlt := I.lt
      rw [← e] at hlt
      exact absurd (Nat.lt_of_lt_of_le hlt hf) (Nat.lt_irrefl _)
    · exact I.nofs hf e
  cases hc : codeAmong pos ps.toList with
  | some cv =>
    obtain ⟨c2, e, hco, nc⟩ := hall pos cv hc
    subst e
    refine PySem.W.kla_makeFunctionHit (mg := X.mg) (c := c) (P := p0) (ps := ps) (closure_ok hfree) I.ok.glob (I.mod.glob.keeps I.bk) hcode (TB.code.keeps I.bk) hP2 htr hc bP fun ctv h2 tk hx hsz => ?_
    have J : Inv X pins σ H { s with heap := h2.push (lamOb X params body scope ((X.mg "__name__").getD .none) c2 ctv), toks := tk } := I.kept fun b o e => Heap.get?_push_of_some _ (hx b o e)
    exact h h2.objs.size c2 _ ctv H _ J hS (Kp.refl _ _) (Heap.get?_push_size _ rfl) (I.hok.fresh hsz) (nofr _ hsz) hco nc
  | none =>
    refine PySem.W.kla_makeFunction (mg := X.mg) (c := c) (P := p0) (ps := ps) (closure_ok hfree) I.ok.glob (I.mod.glob.keeps I.bk) hcode (TB.code.keeps I.bk) hP2 htr hc TB.gP bP fun c2 ctv h2 tk hx hge hlt hrec htb => ?_
    obtain ⟨c3, oc, vs, t, e2, hoc, hd, hv⟩ := hrec
    cases e2
    have hsz : s.heap.objs.size ≤ h2.objs.size := Nat.le_trans hge (Nat.le_of_lt hlt)
    have nC : H c2 = none := I.hok.fresh hge
    have nPc : p0 ≠ c2 := ne_of_none hP nC
    have J := inv_table (q := lamNm X) (t' := tk) (more := #[rawInt pos.line, rawInt pos.col, .ref c2]) (h' := h2.push (lamOb X params body scope ((X.mg "__name__").getD .none) c2 ctv)) I hP
      (fun b o hb e => Heap.get?_push_of_some _ (hx b o hb e)) (Heap.get?_push_of_some _ htb) hge ⟨oc, vs, t, Heap.get?_push_of_some _ hoc, hd, hv⟩
    have es : upd (upd H p0 (.tbl (ps ++ #[rawInt pos.line, rawInt pos.col, .ref c2]))) c2 (CodeO c2 (lamNm X)) = upd (upd H c2 (CodeO c2 (lamNm X))) p0 (.tbl (ps ++ #[rawInt pos.line, rawInt pos.col, .ref c2])) := funext fun b => by
      by_cases h1 : b = c2
      · rw [h1, upd_same, upd_ne (Ne.symm nPc), upd_same]
      · rw [upd_ne h1]
        by_cases h3 : b = p0
        · rw [h3, upd_same, upd_same]
        · rw [upd_ne h3, upd_ne h3, upd_ne h1]
    rw [es] at J
    have S1 : StoR X.K fo S (upd H c2 (CodeO c2 (lamNm X))) := hS.laid nC
    have nc2 : fo.nx c2 := hS.free nC
    have eL : (ps ++ #[rawInt pos.line, rawInt pos.col, .ref c2]).toList = ps.toList ++ [rawInt pos.line, rawInt pos.col, .ref c2] := by simp
    have S2 : StoR X.K fo (S.set i (.tab (lamNm X) p0)) (upd (upd H c2 (CodeO c2 (lamNm X))) p0 (.tbl (ps ++ #[rawInt pos.line, rawInt pos.col, .ref c2]))) := S1.put ep ⟨rfl, _, upd_same, by rw [eL]; exact PySem.TriplesOk_snoc _ _ _ _ htr, fun p2 cv hcv => by
      rw [eL] at hcv
      rcases among_app _ htr hcv with z | z
      · obtain ⟨c4, e1, e3, e4⟩ := hall p2 cv z
        exact ⟨c4, e1, by rw [upd_ne (fun z => by rw [z, hP] at e3; exact codeO_ne ps (Option.some.inj e3).symm), upd_ne (ne_of_none e3 nC)]; exact e3, e4⟩
      · exact ⟨c2, z, by rw [upd_ne (Ne.symm nPc), upd_same], nc2⟩⟩
    have eS : S.set i (.tab (lamNm X) p0) = S := by
      apply List.ext_getElem?
      intro j
      by_cases hj : i = j
      · subst hj
        rw [List.getElem?_set_self (List.getElem?_eq_some_iff.mp ht).1, ht]
      · rw [List.getElem?_set_ne hj]
    rw [eS] at S2
    refine h h2.objs.size c2 _ ctv _ _ J S2 ((Kp.new nC).trans (Kp.put ep)) (Heap.get?_push_size _ rfl) ?_ (nofr _ hsz) (by rw [upd_ne (Ne.symm nPc), upd_same]) nc2
    have n1 : h2.objs.size ≠ c2 := Nat.ne_of_gt hlt
    have n2 : h2.objs.size ≠ p0 := Nat.ne_of_gt (Nat.lt_of_lt_of_le (Heap.lt_size hP2) hsz)
    rw [upd_ne n2, upd_ne n1]
    exact I.hok.fresh hsz
end
end Z
set_option maxRecDepth 100000
set_option maxHeartbeats 2000000
namespace Z
open PySem PySem.Spec PyProof.Rows L2 LamX

/-! ## a def that is handed a lambda without parameters -/
abbrev WE (E : XK) : WX := fun cls d _ H => E cls d H
/-- the meaning of a lambda that yields data -/
def thOf (m : Sto → Option (Res SV)) : Th := fun S => match m S with
  | some (.ok (.d d) S1) => some (.ok d S1)
  | some (.exc x S1) => some (.exc x S1)
  | _ => none
theorem ThR.of {X : Cx} {f : Ow} {H : Hp} {σV : L2.St} {σ : Sg} {ee : Ex} (hE : EnvR X.K f H σV σ) : ThR X.K f H (fun E H2 Q => TX X (WE E) ee σV H2 Q) (thOf (ee σ)) := fun f2 H2 S2 r E Q kq g p hS he hr => by
  unfold thOf at he
  split at he
  · rename_i d S1 e
    cases he
    exact ⟨f2, σ, S2, _, hE.keep kq g p, hS, e, hr⟩
  · rename_i x S1 e
    cases he
    exact ⟨f2, σ, S2, _, hE.keep kq g p, hS, e, hr⟩
  · cases he
abbrev hCx (P : Program) (w : World) (K : PySem.W.Frag) (mg : Str → Option Value) (base : Heap) (Ng : List Str) (x : Str) (sg : Scope) (g : Addr) (cdv : Value) (A : Around) (stack : List Env) (s : Shared) (H : Hp) : Cx := cxOf C8.CX0 P w K mg base Ng x sg g cdv A stack s H C8.E0
/-- x(lambda: ..) does what gth says of the lambda's meaning -/
structure FnH (P : Program) (w : World) (K : PySem.W.Frag) (mg : Str → Option Value) (base : Heap) (k : Nat) (x : Str) (gth : Th → Sto → Option FR) where
  g : Addr
  pg : Arguments
  bg : List Stmt
  sg : Scope
  dV : Value
  kV : Value
  doc : Value
  pm : Value
  an : Option Addr
  cdv : Value
  ct : Value
  oc : Value
  od : Option Addr
  osl : Array (Option Value)
  Ng : List Str
  a : Str
  mgx : mg x = some (.ref g)
  kp : PySem.W.keepIn K (.ref g) = true
  lk : K.lookup g = some ⟨oc, od, .func (PySem.W.fnOf x x pg bg sg dV kV doc pm an cdv ct), osl⟩
  cd : PySem.W.codeIn K cdv x = true
  hb : Binds K (PySem.W.fnOf x x pg bg sg dV kV doc pm an cdv ct) [a] []
  sc : FnScope Ng [a] sg
  h0 : Ng[0]? = some a
  hv : Vis sg a
  d1 : (a == ("__debug__" : Str)) = false
  d2 : (a == ("__classdict__" : Str)) = false
  run : ∀ (A : Around) (stack : List Env) (f c2 : Addr) (q : Str) (s : Shared) (H : Hp) (Q : VK) (tl : XK → Hp → VK → Prop) (fo : Ow) (S : Sto) (th : Th) (r : FR), Room k (A.deeper (envOfC x sg s.heap.objs.size g cdv)) → A.guards = some [] →
    (∀ (W : WX) (pn : List (Addr × Obj)) (xe : Value → Shared → Prop) (E : XK) (p1 p2 : Pos), Takes ((hCx P w K mg base Ng x sg g cdv A stack s H).tr pn xe) W → (∀ cls d τ H2, E cls d H2 → W cls d τ H2) →
      PE ((hCx P w K mg base Ng x sg g cdv A stack s H).tr pn xe) (.Call (.Name a p1) [] [] p2) (fun σZ HZ Q => σZ[0]? = some (some (.ref f)) ∧ HZ c2 = some (CodeO c2 q) ∧ tl E HZ Q)) →
    H c2 = some (CodeO c2 q) → fo.nx c2 → StoR K fo S H → ThR K fo H tl th → gth th S = some r →
    (match r with
      | .ok v S2 => ∀ u H2, StoR K fo S2 H2 → Kp fo H H2 → SvR K fo H2 u v → Q u H2
      | _ => False) →
    ∃ t, PSs (hCx P w K mg base Ng x sg g cdv A stack s H).nox bg t ∧ t { nx := fun _ H2 => Q .non H2, rt := Q } (L2.start Ng [.ref f]) H
open Classical in
@[simp] noncomputable def eHand (i : Nat) (q : Str) (P : Addr) (gth : Th → Sto → Option FR) (ee : Ex) (σ : Sg) (S : Sto) : Option (Res SV) := match S[i]? with
  | some (.tab q2 P2) => if q2 = q ∧ P2 = P then match gth (thOf (ee σ)) S with
      | some (.ok v S2) => some (.ok v S2)
      | _ => none
    else none
  | _ => none
theorem de_handed {X : Cx} {W : WX} {k i : Nat} {c P : Addr} {x : Str} {gth : Th → Sto → Option FR} {params : Arguments} {body : Expr} {scope : Scope} {ee : Ex} {p lpos pos : Pos} (G : Gd X W (k + 2)) (F : FnH X.prog X.w X.K X.mg X.base (k + 1) x gth) (TB : TabB X.base X.mg c P) (hcode : X.env.code = .ref c)
    (L : LamS X.env.scope scope) (hdef : defaultsOf params X.env = ([], [])) (hbind : ∀ (q : Str) (cl : List (Str × Addr)) (pm cv ctv : Value), bindArgs (PySem.W.kla_fn "<lambda>" q params body scope cl pm cv ctv) ⟨[], []⟩ = pure [])
    (hbody : ∀ (A : Around) (outer : List Env) (s : Shared) (H : Hp) (E : XK) (f c2 : Addr), Room k (A.deeper (lamEnv X scope s.heap.objs.size f c2)) → A.guards = some [] → DE (lamCx X A outer s H E scope f c2) (WE E) body ee)
    (hg : Gl X x := by rfl) (hdb : (x == ("__debug__" : Str)) = false := by decide) : DE X W (.Call (.Name x p) [.Lambda params body scope lpos] [] pos) (eHand i (lamNm X) P gth ee) := by
  refine ⟨fun pins s σV H Q I ⟨fo, σ, S, r, hE, hS, hr, hq⟩ => ?_⟩
  unfold eHand at hr
  split at hr
  case h_2 => cases hr
  rename_i q2 P2 ht
  split at hr
  case isFalse => cases hr
  rename_i hh
  obtain ⟨rfl, rfl⟩ := hh
  refine wpAny_Call_Name_kw (ld_glob I hg F.mgx ?_ hdb)
  refine PySem.W.callWith_K (h₀ := X.base) I.ok.mod.kin F.kp ?_ (by rfl) (by rfl)
  show wpAny _ _ (spliced ((false, eval (.Lambda params body scope lpos) X.env) :: backTo pos (starEach [] X.env))) _ _ s
  refine Calls.spliced_cons (lam_made I TB hcode hS ht hdef (L.has I.ok) fun f c2 pm2 ctv H1 s1 I1 S1 k1 hf hfn hfr hco nc => ?_)
  refine Calls.spliced_nil ⟨I1.kIn, ?_⟩
  have rc : codeAny (model X.prog X.w) X.A (.call (.ref F.g) ⟨[.ref f], []⟩) (CR C8.CX0 X.stack X.prog X.w H1 s1 Q C8.E0) s1 := by
    refine run_ofS (N := F.Ng) (ps := [F.a]) (us := [.ref f]) (vs := [.ref f]) F.lk F.cd F.sc G.hr I1.env0 (F.hb s1 [.ref f] I1.kIn rfl) (.cons rfl .nil) rfl fun hr2 => ?_
    cases eg : gth (thOf (ee σ)) S with
    | none => rw [eg] at hr; cases hr
    | some fr =>
    rw [eg] at hr
    cases fr with
    | nw o S2 => cases hr
    | exc y S2 => cases hr
    | ok v S2 =>
    cases hr
    obtain ⟨t2, h1, h2⟩ := F.run X.A X.stack f c2 (lamNm X) s1 H1 Q (fun E H2 Q2 => TX X (WE E) ee σV H2 Q2) fo S (thOf (ee σ)) (.ok v S2) hr2 G.gd
      (fun W2 pn xe E p1 p2 tk hW => pe_thunk (i := 0) I1 L hf hfn hfr (hbind _ _ _ _ _) tk hW hr2 G.gd (fun A outer s H hr3 hgd => hbody A outer s H E f c2 hr3 hgd) F.h0 F.hv F.d1 F.d2) hco nc S1 (ThR.of (hE.kp k1)) eg
      (fun u H2 s2 k2 r2 => hq u H2 s2 (k1.trans k2) r2)
    exact ⟨t2, h1.nox, h2⟩
  refine wpAny_call (codeAny_mono rc fun r s2 hq => ?_)
  cases r with
  | error e => exact (show False from hq).elim
  | ok fl =>
    cases fl with
    | ret u => exact I1.after hq
    | next => exact False.elim hq
    | brk => exact False.elim hq
    | cont => exact False.elim hq
open Classical in
/-- the thunk in slot i is called -/
@[simp] noncomputable def sTh (p c : Addr) (q : Str) (tl : XK → Hp → VK → Prop) (i : Nat) (σ : Sg) (S : Sto) : Option Flow := match σ[i]? with
  | some (some (.t p2 c2 q2 tl2 th)) => if p2 = p ∧ c2 = c ∧ q2 = q ∧ tl2 = tl then match th S with
      | some (.ok _ S1) => some (.nx σ S1)
      | some (.exc x S1) => some (.exc x S1)
      | none => none
    else none
  | _ => none
open Classical in
@[simp] noncomputable def sThR (p c : Addr) (q : Str) (tl : XK → Hp → VK → Prop) (i : Nat) (σ : Sg) (S : Sto) : Option Flow := match σ[i]? with
  | some (some (.t p2 c2 q2 tl2 th)) => if p2 = p ∧ c2 = c ∧ q2 = q ∧ tl2 = tl then match th S with
      | some (.ok d S1) => some (.rt (.d d) S1)
      | some (.exc x S1) => some (.exc x S1)
      | none => none
    else none
  | _ => none
/-- x() in a context around whose statements it may be tried -/
abbrev Act (Y : Cx) (a : Str) (p c : Addr) (q : Str) (tl : XK → Hp → VK → Prop) : Prop := ∀ (W : WX) (pn : List (Addr × Obj)) (xe : Value → Shared → Prop) (E : XK) (p1 p2 : Pos), Takes (Y.tr pn xe) W → (∀ cls d τ H2, E cls d H2 → W cls d τ H2) →
  PE (Y.tr pn xe) (.Call (.Name a p1) [] [] p2) (fun σZ HZ Q => σZ[0]? = some (some (.ref p)) ∧ HZ c = some (CodeO c q) ∧ tl E HZ Q)
section
variable {Y : Cx} {a : Str} {p c : Addr} {q : Str} {tl : XK → Hp → VK → Prop} {W : WX} {pn : List (Addr × Obj)} {xe : Value → Shared → Prop} {p1 p2 p3 : Pos}
theorem ds_thunk (act : Act Y a p c q tl) (tk : Takes (Y.tr pn xe) W) (hs : swapsWith (.Call (.Name a p1) [] [] p2) none p3.line (Y.tr pn xe).env = pure false := by rfl) : DS (Y.tr pn xe) W (.Expr (.Call (.Name a p1) [] [] p2) p3) (sTh p c q tl 0) :=
  ps_imp (ps_expr (act W pn xe (fun cls d H => ∀ τ, W cls d τ H) p1 p2 tk (fun cls d τ H h => h τ)) hs) fun D σV H ⟨fo, σ, S, r, hE, hS, hr, hf⟩ => by
    unfold sTh at hr
    split at hr
    case h_2 => cases hr
    rename_i p4 c4 q4 tl4 th e0
    split at hr
    case isFalse => cases hr
    rename_i hh
    obtain ⟨rfl, rfl, rfl, rfl⟩ := hh
    obtain ⟨v, ev, rv, rc, nc, rt⟩ := hE.get 0 _ e0
    subst rv
    refine ⟨ev, rc, ?_⟩
    cases et : th S with
    | none => rw [et] at hr; cases hr
    | some r0 =>
    rw [et] at hr
    refine rt fo H S r0 _ _ (Kq.refl _ _) (Gr.refl _ _) (Pf.refl _) hS et ?_
    cases r0 with
    | ok d S1 =>
      cases hr
      exact fun u H3 s3 k3 r3 => ReS.now (hf.kp s3 k3) s3 (hE.kp k3)
    | exc x S1 =>
      cases hr
      exact fun cls d H3 s3 k3 r3 τ => XS.of (σV := τ) hf cls d H3 s3 k3 r3
theorem ds_thunkR (act : Act Y a p c q tl) (tk : Takes (Y.tr pn xe) W) : DS (Y.tr pn xe) W (.Return (some (.Call (.Name a p1) [] [] p2)) p3) (sThR p c q tl 0) :=
  ps_imp (ps_ret (act W pn xe (fun cls d H => ∀ τ, W cls d τ H) p1 p2 tk (fun cls d τ H h => h τ))) fun D σV H ⟨fo, σ, S, r, hE, hS, hr, hf⟩ => by
    unfold sThR at hr
    split at hr
    case h_2 => cases hr
    rename_i p4 c4 q4 tl4 th e0
    split at hr
    case isFalse => cases hr
    rename_i hh
    obtain ⟨rfl, rfl, rfl, rfl⟩ := hh
    obtain ⟨v, ev, rv, rc, nc, rt⟩ := hE.get 0 _ e0
    subst rv
    refine ⟨ev, rc, ?_⟩
    cases et : th S with
    | none => rw [et] at hr; cases hr
    | some r0 =>
    rw [et] at hr
    refine rt fo H S r0 _ _ (Kq.refl _ _) (Gr.refl _ _) (Pf.refl _) hS et ?_
    cases r0 with
    | ok d S1 =>
      cases hr
      exact fun u H3 s3 k3 r3 => hf [] u H3 (fun _ z => nomatch z) (by rw [Ow.add_nil]; exact s3) k3 (by rw [Ow.add_nil]; exact r3)
    | exc x S1 =>
      cases hr
      exact fun cls d H3 s3 k3 r3 τ => XS.of (σV := τ) hf cls d H3 s3 k3 r3
end
end Z
set_option maxRecDepth 100000
set_option maxHeartbeats 2000000
namespace Z
open PySem PySem.Spec PyProof.Rows L2 LamX

/-! ## the meaning of a def that is handed a lambda -/
abbrev MTh := Addr → Addr → Str → (XK → Hp → VK → Prop) → Sm
open Classical in
noncomputable def runT (n : Nat) (mm : MTh) (th : Th) (S : Sto) : Option FR :=
  if h : ∃ r, ∀ p c q tl, fnRun n (mm p c q tl) [.t p c q tl th] S = some r then some h.choose else none
theorem runT_eq {n : Nat} {mm : MTh} {th : Th} {S : Sto} {r : FR} (h : ∀ p c q tl, fnRun n (mm p c q tl) [.t p c q tl th] S = some r) : runT n mm th S = some r := by
  have e : ∃ r, ∀ p c q tl, fnRun n (mm p c q tl) [.t p c q tl th] S = some r := ⟨r, h⟩
  unfold runT
  rw [dif_pos e]
  have h2 := e.choose_spec (0 : Nat) (0 : Nat) Str.empty (fun _ _ _ => True)
  rw [h] at h2
  exact h2.symm
theorem runT_at {n : Nat} {mm : MTh} {th : Th} {S : Sto} {r : FR} (h : runT n mm th S = some r) (p c : Addr) (q : Str) (tl : XK → Hp → VK → Prop) : fnRun n (mm p c q tl) [.t p c q tl th] S = some r := by
  unfold runT at h
  split at h
  · rename_i e
    cases h
    exact e.choose_spec p c q tl
  · cases h
section
variable {P : Program} {w : World} {K : PySem.W.Frag} {mg : Str → Option Value} {base : Heap} {k n : Nat} {x a : Str} {st : Stmt} {g : Addr} {fd : FuncData} {Ng : List Str} {mm : MTh}
theorem fnH_def (F : Fun K x x st g fd) (hm : mg x = some (.ref g)) (sc : FnScope Ng [a] (defScope st)) (h0 : Ng[0]? = some a) (hn : Ng.length - 1 = n) (hv : Vis (defScope st) a)
    (bd : ∀ (kV doc pm : Value) (an : Option Addr) (cdv ct : Value), L2.Binds K (PySem.W.fnOf x x (defArgs st) (defBody st) (defScope st) .none kV doc pm an cdv ct) [a] [])
    (hb : ∀ (cdv : Value) (A : Around) (stack : List Env) (s : Shared) (H : Hp) (p c : Addr) (q : Str) (tl : XK → Hp → VK → Prop), Gd (hCx P w K mg base Ng x (defScope st) g cdv A stack s H).nox W0 k →
      Act (hCx P w K mg base Ng x (defScope st) g cdv A stack s H) a p c q tl → DB (hCx P w K mg base Ng x (defScope st) g cdv A stack s H).nox W0 (defBody st) (mm p c q tl))
    (d1 : (a == ("__debug__" : Str)) = false := by decide) (d2 : (a == ("__classdict__" : Str)) = false := by decide) : Nonempty (FnH P w K mg base k x (runT n mm)) := by
  obtain ⟨oc, od, kV, doc, pm, an, cdv, ct, osl, rfl, lk, hcd⟩ := F.ex
  refine ⟨{ g := g, pg := defArgs st, bg := defBody st, sg := defScope st, dV := .none, kV := kV, doc := doc, pm := pm, an := an, cdv := cdv, ct := ct, oc := oc, od := od, osl := osl, Ng := Ng, a := a, mgx := hm, kp := F.kp, lk := lk, cd := hcd, hb := bd _ _ _ _ _ _, sc := sc, h0 := h0, hv := hv, d1 := d1, d2 := d2, run := ?_ }⟩
  intro A stack p c q s H Q tl fo S th r hr hgd act hco nc hS hth hg hq
  have G : Gd (hCx P w K mg base Ng x (defScope st) g cdv A stack s H).nox W0 k := ⟨hr, hgd, rfl, sc.nd, L2.takes0, PassesOwn.never⟩
  refine ⟨_, hb cdv A stack s H p c q tl G act, ?_⟩
  have e := runT_at hg p c q tl
  unfold fnRun at e
  cases hmm : mm p c q tl ([SV.t p c q tl th].map some ++ List.replicate n none) S with
  | none => rw [hmm] at e; cases e
  | some fl =>
    rw [hmm] at e
    have hp : Paired (SvR K fo H) [V.ref p] [SV.t p c q tl th] := .cons ⟨rfl, hco, nc, hth⟩ .nil
    refine ⟨fo, _, S, fl, start_env hp hn, hS, hmm, body_end (X := (hCx P w K mg base Ng x (defScope st) g cdv A stack s H).nox) (E := C8.E0) (svs := [SV.t p c q tl th]) (fun _ _ _ _ z => z) hS e ?_⟩
    cases r with
    | ok v S2 => exact hq
    | nw o S2 => exact hq.elim
    | exc y S2 => exact hq.elim
end
end Z
set_option maxRecDepth 100000
set_option maxHeartbeats 1000000
namespace Z
open PySem PySem.Spec PyProof.Rows L2

/-! ## slices -/
abbrev Po := Sg → Sto → Option (Res (Option Int))
@[simp] def poN (_ : Sg) (S : Sto) : Option (Res (Option Int)) := some (.ok none S)
@[simp] def poS (e : Ex) (σ : Sg) (S : Sto) : Option (Res (Option Int)) := Res.bnd (e σ S) fun x S1 => match x with
  | .d (.int i) => some (.ok (some i) S1)
  | _ => none
def TO_ (X : Cx) (W : WX) (p : Po) : TO := fun σV H Q => ∃ (f : Ow) (σ : Sg) (S : Sto) (r : Res (Option Int)), EnvR X.K f H σV σ ∧ StoR X.K f S H ∧ p σ S = some r ∧
  match r with
  | .ok o S' => ∀ (H' : Hp), StoR X.K f S' H' → Kp f H H' → Q o H'
  | .exc x S' => XS X W f σV H x S'
def DO (X : Cx) (W : WX) (e : Option Expr) (p : Po) : Prop := PO X e (TO_ X W p)
@[simp] def pSl (x : SV) (lo hi : Option Int) (S : Sto) : Option SV := match x with
  | .d (.list ds) => some (.d (.list (cutD ds lo hi)))
  | .d (.tuple ds) => some (.d (.tuple (cutD ds lo hi)))
  | .d (.str z) => if z.length ≤ sizeLine then some (.d (.str (cutS z lo hi))) else none
  | .r j => match S[j]? with
    | some (.lst ds) => some (.d (.list (cutD ds lo hi)))
    | _ => none
  | _ => none
@[simp] def eSl (e : Ex) (l h : Po) (σ : Sg) (S : Sto) : Option (Res SV) := Res.bnd (e σ S) fun x S1 => Res.bnd (l σ S1) fun lo S2 => Res.bnd (h σ S2) fun hi S3 => (pSl x lo hi S3).map fun z => .ok z S3
section
variable {X : Cx} {W : WX} {e : Expr} {ee : Ex} {lo hi : Option Expr} {ml mh : Po} {pos p2 : Pos}
theorem po_imp {t t' : TO} (h : PO X lo t) (i : ∀ σ H Q, t' σ H Q → t σ H Q) : PO X lo t' := ⟨fun pins s σ H Q I q => h.run pins s σ H Q I (i σ H Q q)⟩
theorem do_none : DO X W none poN := po_imp po_none fun σV H Q ⟨f, σ, S, r, hE, hS, he, hq⟩ => by
  cases he
  exact hq H hS (Kp.refl _ _)
theorem do_some (h : DE X W e ee) : DO X W (some e) (poS ee) := po_imp (po_some h) fun σV H Q ⟨f, σ, S, r, hE, hS, he, hq⟩ => by
  refine TX.first hE hS he (fun x S' e => by subst e; exact hq) fun x S1 vx H1 _ h1 s1 k1 e1 r1 => ?_
  split at h1
  · cases h1
    cases r1
    exact ⟨_, rfl, hq H1 s1 k1⟩
  · cases h1
theorem TO_.first {β : Type} {e : Po} {g : Option Int → Sto → Option (Res β)} {f : Ow} {σ : Sg} {S : Sto} {σV : L2.St} {H : Hp} {r : Res β} {Q : Option Int → Hp → Prop} (hE : EnvR X.K f H σV σ) (hS : StoR X.K f S H) (h : Res.bnd (e σ S) g = some r)
    (hx : ∀ x S', r = .exc x S' → XS X W f σV H x S')
    (hk : ∀ (b : Option Int) (S1 : Sto) (H1 : Hp), e σ S = some (.ok b S1) → g b S1 = some r → StoR X.K f S1 H1 → Kp f H H1 → EnvR X.K f H1 σV σ → Q b H1) : TO_ X W e σV H Q := by
  cases e1 : e σ S with
  | none => rw [e1] at h; cases h
  | some q =>
    rw [e1] at h
    refine ⟨f, σ, S, q, hE, hS, e1, ?_⟩
    cases q with
    | ok sv S1 => exact fun H1 s1 k1 => hk sv S1 H1 e1 h s1 k1 (hE.kp k1)
    | exc x S1 => exact hx x S1 (Option.some.inj h).symm
theorem slk {f : Ow} {S : Sto} {H : Hp} {vx : V} {x z : SV} {lo hi : Option Int} {Q : VK} (hS : StoR X.K f S H) (rx : SvR X.K f H vx x) (hp : pSl x lo hi S = some z) (hq : ∀ (v : V) (H' : Hp), StoR X.K f S H' → Kp f H H' → SvR X.K f H' v z → Q v H') :
    (rSlL X.K vx lo hi H Q ∨ rSlA X.K vx lo hi H Q) ∨ rSlS vx lo hi H Q := by
  unfold pSl at hp
  split at hp
  · cases hp
    cases rx with
    | @lst a xs _ h1 h2 =>
    exact .inl (.inl ⟨a, xs, rfl, h1.sq, fun p np => hq _ _ (hS.laid np) (Kp.new np) (Is.lst ⟨upd_same, hS.free np⟩ (cut_is (h2.keep (Kp.new np).q (Gr.refl _ _)) lo hi))⟩)
  · rename_i ds
    cases hp
    cases rx with
    | @tup a xs _ h1 h2 =>
    refine .inl (.inr ⟨a, xs, rfl, h1.sq, fun hw => ?_, fun _ p np => hq _ _ (hS.laid np) (Kp.new np) (Is.tup (.inl ⟨.inl upd_same, hS.free np⟩) (cut_is (h2.keep (Kp.new np).q (Gr.refl _ _)) lo hi))⟩)
    refine hq _ H hS (Kp.refl _ _) ?_
    have ed : cutD ds lo hi = ds := by
      unfold cutD
      rw [h2.len] at hw
      rw [hw.1, hw.2]
      simp
    rw [ed]
    exact Is.tup h1 h2
  · split at hp
    · rename_i hz
      cases hp
      cases rx
      exact .inr ⟨_, rfl, hz, hq _ H hS (Kp.refl _ _) (Is.str _)⟩
    · cases hp
  · split at hp
    · rename_i ds e1
      cases hp
      obtain ⟨a, ea, rfl⟩ := rx
      obtain ⟨xs, h1, h2⟩ := hS.at_ _ _ a e1 ea
      exact .inl (.inl ⟨a, xs, rfl, .inl (.inl h1), fun p np => hq _ _ (hS.laid np) (Kp.new np) (Is.lst ⟨upd_same, hS.free np⟩ (cut_is (h2.keep (Kp.new np).q (Gr.refl _ _)) lo hi))⟩)
    · cases hp
  · cases hp
theorem de_slice (he : DE X W e ee) (hl : DO X W lo ml) (hh : DO X W hi mh) : DE X W (.Subscript e (.Slice lo hi none p2) pos) (eSl ee ml mh) :=
  pe_imp (pe_slice (SlR.or (SlR.or sl_list sl_tupA) sl_str) he hl hh) fun σV H Q ⟨f, σ, S, r, hE, hS, hr, hq⟩ => by
    have hx := exc_way hq
    refine TX.first hE hS hr hx fun x S1 vx H1 _ h1 s1 k1 e1 r1 => ?_
    refine TO_.first e1 s1 h1 (fun y S' e => (hx y S' e).kp k1) fun lo S2 H2 _ h2 s2 k2 e2 => ?_
    have k12 := k1.trans k2
    refine TO_.first e2 s2 h2 (fun y S' e => (hx y S' e).kp k12) fun hi S3 H3 _ h3 s3 k3 e3 => ?_
    cases hp : pSl x lo hi S3 with
    | none => rw [hp] at h3; cases h3
    | some z =>
      rw [hp] at h3
      cases h3
      exact slk s3 ((r1.kp k2).kp k3) hp fun v H' s' k' r' => hq v H' s' ((k12.trans k3).trans k') r'

/-! ### [::-1] -/
theorem getItem_tuple_rev {prog : Program} {w : World} {A : Around} {E : Value → Shared → Prop} {s : Shared} {t sl : Addr} {items : Array Value} {vs : Value} {Q : Value → Shared → Prop} (ht : IsTup s.heap t items) (hs : s.heap.IsSliceOf sl .none .none vs) (ps : IsPart vs (some (-1)))
    (h : Q (.ref s.heap.objs.size) { s with heap := s.heap.push { cls := .type "tuple", data := .seq items.toList.reverse.toArray } }) (hsz : items.size ≤ sizeLine) : wpAny (model prog w) A (getItem (.ref t) (.ref sl)) Q E s := by
  have htake : sizeOk (.seq items.toList.reverse.toArray) := by
    show items.toList.reverse.toArray.size ≤ sizeLine
    simpa using hsz
  obtain ⟨os, hos, hcs, hds⟩ := id hs
  have hTs : s.TypeIs (.ref sl) "slice" := ⟨os, hos, hcs⟩
  unfold getItem
  try with_reducible refine wpAny_holding ?_
  first | refine wpAny_bind (wpAny_pure ?_) | skip
  refine wpAny_bind (wpAny_sequenceKey ht.typeIs (by decide) ?_)
  refine wpAny_bind (wpAny_callSpecial?_slot (name := Str.ofString "__getitem__") ht.typeIs PyProof.Rows.slot_tuple_getitem
    (wpAny_call_entry PyProof.Rows.slot_tuple_getitem ht.typeIs PyProof.Rows.entry_tuple_getitem ?_ (PyProof.Rows.args_tuple_getitem _ _)))
  show wpAny _ _ (Builtin.Tuple.tupleItemsOf (.ref t) >>= _) _ _ s
  refine wpAny_bind (PyProof.Rows.tupleItemsOf_ ht ?_)
  refine wpAny_bind (wpAny_typeOf hTs ?_)
  rw [if_pos (by decide)]
  have places : Builtin.Slice.slicePlaces ((items.size : Int) - 1) (-1) (-1) = items.size := by
    unfold Builtin.Slice.slicePlaces
    have h1 : ¬ ((-1 : Int) > 0) := by omega
    have e1 : (-(-1 : Int)) = 1 := rfl
    simp only [h1, if_false, e1, Int.ediv_one]
    split <;> omega
  have appl : ∀ {Q : Int × Int × Nat → Shared → Prop}, Q ((items.size : Int) - 1, -1, items.size) s → wpAny (model prog w) A.in1 (Builtin.Slice.sliceApplied (.ref sl) (pure (items.size : Int))) Q E s := by
    intro Q h
    unfold Builtin.Slice.sliceApplied Builtin.Slice.sliceFields
    refine wpAny_bind (wpAny_bind (wpAny_field hos hds (x := .none) rfl (wpAny_bind (wpAny_field hos hds (x := .none) rfl (wpAny_bind (wpAny_field hos hds (x := vs) rfl (wpAny_pure ?_)))))))
    refine wpAny_bind (HT.slicePart_ ps ?_)
    show wpAny _ _ (if ((-1 : Int) == 0) = true then _ else _) _ _ s
    rw [if_neg (by decide)]
    refine wpAny_bind (HT.slicePart_ .none (wpAny_bind (HT.slicePart_ .none (wpAny_bind (wpAny_pure ?_)))))
    have adj : Builtin.Slice.sliceAdjust none none (-1) (items.size : Int) = ((items.size : Int) - 1, -1) := by
      unfold Builtin.Slice.sliceAdjust
      have h1 : (-1 : Int) < 0 := by omega
      simp only [h1, if_true]
    show wpAny _ _ (match Builtin.Slice.sliceAdjust none none (-1) (items.size : Int) with | (lo, hi) => pure (lo, (-1 : Int), Builtin.Slice.slicePlaces lo hi (-1))) _ _ s
    rw [adj]
    show wpAny _ _ (pure ((items.size : Int) - 1, (-1 : Int), Builtin.Slice.slicePlaces ((items.size : Int) - 1) (-1) (-1))) _ _ s
    rw [places]
    exact wpAny_pure h
  refine wpAny_bind (appl ?_)
  have hno : ¬ ((((items.size : Int) - 1) == 0 && (-1 : Int) == 1 && items.size == items.size) = true) := by
    simp
  show wpAny _ _ (if (((items.size : Int) - 1) == 0 && (-1 : Int) == 1 && items.size == items.size) = true then _ else _) _ _ s
  have pick : ((List.range items.size).filterMap fun (m : Nat) => items[(((items.size : Int) - 1) + (m : Int) * (-1)).toNat]?).toArray = items.toList.reverse.toArray := by
    congr 1
    apply List.ext_getElem?
    intro i
    have key : ∀ n : Nat, n ≤ items.size → (List.range n).filterMap (fun (m : Nat) => items[(((items.size : Int) - 1) + (m : Int) * (-1)).toNat]?) = (items.toList.reverse).take n := by
      intro n
      induction n with
      | zero => intro _; simp
      | succ n ih =>
        intro hn
        rw [List.range_succ, List.filterMap_append, ih (by omega)]
        have e1 : (((items.size : Int) - 1) + (n : Int) * (-1)).toNat = items.size - 1 - n := by omega
        have e2 : items.size - 1 - n < items.size := by omega
        simp only [List.filterMap_cons, List.filterMap_nil, e1, Array.getElem?_eq_getElem e2]
        rw [List.take_succ]
        congr 1
        rw [List.getElem?_reverse (by rw [Array.length_toList]; omega)]
        simp [e2]
    have k := key items.size (Nat.le_refl _)
    rw [k, List.take_of_length_le (by simp)]
  rw [if_neg hno, pick]
  first
    | exact wpAny_bind (m := Builtin.Tuple.tupleExact _) (wpAny_newObj_type (wpAny_pure ⟨_, rfl, wpAny_pure h⟩) htake)
    | exact wpAny_bind (m := Builtin.Tuple.tupleExact _) (wpAny_newObj_type (wpAny_bind (wpAny_pure (wpAny_pure ⟨_, rfl, wpAny_pure h⟩))) htake)
    | exact wpAny_bind (wpAny_bind (m := Builtin.Tuple.tupleExact _) (wpAny_newObj_type (wpAny_pure (wpAny_pure ⟨_, rfl, wpAny_pure h⟩)) htake))
    | exact wpAny_bind (wpAny_bind (m := Builtin.Tuple.tupleExact _) (wpAny_newObj_type (wpAny_pure ⟨_, rfl, wpAny_pure h⟩) htake))
def tRev (K : PySem.W.Frag) (te : TE) : TE := fun σ H Q => te σ H fun x H1 => ∃ a xs, x = .ref a ∧ ((SqL K H1 a xs ∧ ∀ p, H1 p = none → Q (.ref p) (upd H1 p (.lst xs.reverse))) ∨ (SqT K H1 a xs ∧ ∀ p, H1 p = none → Q (.ref p) (upd H1 p (.tup xs.reverse))))
theorem pe_rev {te : TE} {k : Nat} {p1 p2 p3 : Pos} (he : PE X e te) : PE X (.Subscript e (.Slice none none (some (.UnaryOp .USub (.Constant (.int 1) k p1) p2)) p3) pos) (tRev X.K te) := by
  refine ⟨fun pins s σ H Q I h => ?_⟩
  refine Subscript_ (thn (he.run pins s σ H _ I h) fun v s1 ⟨x, H1, I1, r1, q1⟩ => ?_)
  obtain ⟨a, xs, ex, q⟩ := q1
  subst ex
  cases r1
  have hst : PO X (some (.UnaryOp .USub (.Constant (.int 1) k p1) p2)) (tPart (tUn (rU fun i => .int (-i)) (tC (.int 1)))) := po_some (pe_un un_neg pe_int)
  refine wpAny_Slice (thn (po_none.run pins s1 σ H1 (fun o H2 => o = none ∧ H2 = H1) I1 ⟨rfl, rfl⟩) fun vl s2 ⟨l, H2, I2, pl, el, e2⟩ => ?_)
  subst el e2
  refine thn (po_none.run pins s2 σ H2 (fun o H3 => o = none ∧ H3 = H2) I2 ⟨rfl, rfl⟩) fun vu s3 ⟨u, H3, I3, pu, eu, e3⟩ => ?_
  subst eu e3
  refine thn (hst.run pins s3 σ H3 (fun o H4 => o = some (-1) ∧ H4 = H3) I3 ⟨1, rfl, -1, rfl, rfl, rfl⟩) fun vs s4 ⟨o, H4, I4, ps, eo, e4⟩ => ?_
  subst eo e4
  have I5 : Inv X pins σ H4 { s4 with heap := s4.heap.push { cls := .type "slice", data := .fields #[vl, vu, vs] } } := I4.kept (t' := s4.toks) fun b ob q => Heap.get?_push_of_some _ q
  show wpAny (model X.prog X.w) X.A (subscriptTail e (.Slice none none (some (.UnaryOp .USub (.Constant (.int 1) k p1) p2)) p3) (.ref a) (.ref s4.heap.objs.size)) (EP X pins σ Q) X.xe { s4 with heap := s4.heap.push { cls := .type "slice", data := .fields #[vl, vu, vs] } }
  rcases q with ⟨hx, q⟩ | ⟨hx, q⟩
  · obtain ⟨its, r, ht, hz⟩ := I5.list hx
    have hlen := r.length
    refine tail_any (ops := [.ref a, .ref s4.heap.objs.size]) ht.isList.typeIs (PySem.slot_list_getitem.lookup) ?_ (by with_unfolding_all rfl)
    refine wpAny_getItem_list_slice ht.isList (Heap.IsSliceOf.new _ vl vu vs) pl pu ps (by decide) ?_ (by rw [List.size_toArray]; omega)
    rw [PySem.W.krv_pick]
    refine ⟨.ref _, _, I5.laid (t' := s4.toks) (o := .lst xs.reverse) (fun b ob q => Heap.get?_push_of_some _ q) (Nat.le_refl _) ?_, rfl, q _ (I5.hok.fresh (Nat.le_refl _))⟩
    exact ⟨by rw [List.length_reverse]; exact hz, _, 0, r.reverse, Heap.get?_push_size _ rfl⟩
  · obtain ⟨its, r, ht, hz⟩ := I5.tuple hx
    have hlen := r.length
    cases pl
    cases pu
    refine tail_any (ops := [.ref a, .ref s4.heap.objs.size]) ht.typeIs (PyProof.Rows.slot_tuple_getitem.lookup) ?_ (by with_unfolding_all rfl)
    refine getItem_tuple_rev ht (Heap.IsSliceOf.new _ _ _ vs) ps ?_ (by rw [List.size_toArray]; omega)
    refine ⟨.ref _, _, I5.laid (t' := s4.toks) (o := .tup xs.reverse) (fun b ob q => Heap.get?_push_of_some _ q) (Nat.le_refl _) ?_, rfl, q _ (I5.hok.fresh (Nat.le_refl _))⟩
    exact ⟨by rw [List.length_reverse]; exact hz, _, r.reverse, IsTup.new _ _⟩
theorem IsAll.rev {K : PySem.W.Frag} {f : Ow} {H : Hp} : ∀ {vs : List V} {ds : List PyData}, IsAll K f H vs ds → IsAll K f H vs.reverse ds.reverse
  | _, _, .nil => .nil
  | v :: vs, d :: ds, .cons h r => by
    rw [List.reverse_cons, List.reverse_cons]
    exact (IsAll.rev r).app (.cons h .nil)
@[simp] def pRev (x : SV) (S : Sto) : Option SV := match x with
  | .d (.list ds) => some (.d (.list ds.reverse))
  | .d (.tuple ds) => some (.d (.tuple ds.reverse))
  | .r j => match S[j]? with
    | some (.lst ds) => some (.d (.list ds.reverse))
    | _ => none
  | _ => none
theorem de_rev {k : Nat} {p1 p2 p3 : Pos} (he : DE X W e ee) : DE X W (.Subscript e (.Slice none none (some (.UnaryOp .USub (.Constant (.int 1) k p1) p2)) p3) pos) (eUn pRev ee) :=
  pe_imp (pe_rev he) fun σV H Q ⟨f, σ, S, r, hE, hS, hr, hq⟩ => by
    refine TX.first hE hS hr (exc_way hq) fun x S1 vx H1 _ h1 s1 k1 e1 r1 => ?_
    cases hp : pRev x S1 with
    | none => rw [hp] at h1; cases h1
    | some z =>
      rw [hp] at h1
      cases h1
      unfold pRev at hp
      split at hp
      · cases hp
        cases r1 with
        | @lst a xs _ g1 g2 =>
        exact ⟨a, xs, rfl, .inl ⟨g1.sq, fun p np => hq _ _ (s1.laid np) (k1.trans (Kp.new np)) (Is.lst ⟨upd_same, s1.free np⟩ (g2.keep (Kp.new np).q (Gr.refl _ _)).rev)⟩⟩
      · cases hp
        cases r1 with
        | @tup a xs _ g1 g2 =>
        exact ⟨a, xs, rfl, .inr ⟨g1.sq, fun p np => hq _ _ (s1.laid np) (k1.trans (Kp.new np)) (Is.tup (.inl ⟨.inl upd_same, s1.free np⟩) (g2.keep (Kp.new np).q (Gr.refl _ _)).rev)⟩⟩
      · split at hp
        · rename_i ds e2
          cases hp
          obtain ⟨a, ea, rfl⟩ := r1
          obtain ⟨xs, g1, g2⟩ := s1.at_ _ _ a e2 ea
          exact ⟨a, xs, rfl, .inl ⟨.inl (.inl g1), fun p np => hq _ _ (s1.laid np) (k1.trans (Kp.new np)) (Is.lst ⟨upd_same, s1.free np⟩ (g2.keep (Kp.new np).q (Gr.refl _ _)).rev)⟩⟩
        · cases hp
      · cases hp
end
end Z
set_option maxRecDepth 100000
set_option maxHeartbeats 1000000
namespace Z
open PySem PySem.Spec PyProof.Rows L2

/-! ## methods of texts and lists -/
section
variable {X : Cx} {W : WX} {e a b : Expr} {ee ea eb : Ex} {pos p0 : Pos}
@[simp] def pUp (x : SV) (_ : Sto) : Option SV := match x with
  | .d (.str z) => if z.length ≤ 5592405 then some (.d (.str (Txt.upper z))) else none
  | _ => none
theorem de_upper (he : DE X W e ee) (hbase : attributeBase e "upper" X.env (eval e X.env) = eval e X.env := by rfl) (hline : (p0.endLine == pos.line) = true := by rfl) : DE X W (.Call (.Attribute e "upper" p0) [] [] pos) (eUn pUp ee) :=
  pe_imp (pe_upper he hbase hline) fun σV H Q ⟨f, σ, S, r, hE, hS, hr, hq⟩ => by
    refine TX.first hE hS hr (exc_way hq) fun x S1 vx H1 _ h1 s1 k1 e1 r1 => ?_
    cases hp : pUp x S1 with
    | none => rw [hp] at h1; cases h1
    | some z =>
      rw [hp] at h1
      cases h1
      unfold pUp at hp
      split at hp
      · split at hp
        · rename_i hz
          cases hp
          cases r1
          exact ⟨⟨_, rfl⟩, _, rfl, rfl, hz, hq _ H1 s1 k1 (Is.str _)⟩
        · cases hp
      · cases hp
def flatD : PyData → Bool
  | .none => true
  | .bool _ => true
  | .int _ => true
  | .str _ => true
  | _ => false
theorem flat_is {K : PySem.W.Frag} {f : Ow} {H : Hp} {v : V} {d : PyData} (h : Is K f H v d) (e : flatD d = true) : flatV v = true := by
  cases h <;> first | rfl | (simp [flatD] at e)
theorem flats_is {K : PySem.W.Frag} {f : Ow} {H : Hp} : ∀ {vs : List V} {ds : List PyData}, IsAll K f H vs ds → ds.all flatD = true → vs.all flatV = true
  | _, _, .nil, _ => rfl
  | _, _, .cons h r, e => by
    rw [List.all_cons, Bool.and_eq_true] at e ⊢
    exact ⟨flat_is h e.1, flats_is r e.2⟩
theorem eqv_flat {K : PySem.W.Frag} {f f' : Ow} {H H' : Hp} {v w : V} {d e : PyData} (h : Is K f H v d) (h' : Is K f' H' w e) (h1 : flatD d = true) (h2 : flatD e = true) : eqV v w = PyData.eqv d e := by
  cases h <;> first
    | (simp [flatD] at h1; done)
    | (cases h' <;> first
        | (simp [flatD] at h2; done)
        | (simp [eqV, PyData.eqv]; done)
        | (simp only [eqV, PyData.eqv, beq_iff_eq]; try rfl))
theorem countP_is {K : PySem.W.Frag} {f f' : Ow} {H H' : Hp} {w : V} {e : PyData} (h' : Is K f' H' w e) (h2 : flatD e = true) : ∀ {vs : List V} {ds : List PyData}, IsAll K f H vs ds → ds.all flatD = true → vs.countP (fun z => eqV z w) = ds.countP fun d => PyData.eqv d e
  | _, _, .nil, _ => rfl
  | _, _, .cons h r, q => by
    rw [List.all_cons, Bool.and_eq_true] at q
    rw [List.countP_cons, List.countP_cons, countP_is h' h2 r q.2, eqv_flat h h' q.1 h2]
def rCntF (K : PySem.W.Frag) : V → List V → Hp → VK → Prop := fun x xs H Q => ∃ (p : Addr) (ys : List V) (y : V), x = .ref p ∧ xs = [y] ∧ SqL K H p ys ∧ flatV y = true ∧ ys.all flatV = true ∧ Q (.int (ys.countP fun z => eqV z y : Nat)) H
theorem countU {y : V} : ∀ {xs : List V} {us : List Value}, Vals xs us → xs.all flatV = true → us.countP (eqU y) = xs.countP fun z => eqV z y
  | _, _, .nil, _ => rfl
  | x :: xs, u :: us, .cons r t, f => by
    rw [List.all_cons, Bool.and_eq_true] at f
    rw [List.countP_cons, List.countP_cons, countU t f.2, eqU_of r f.1]
theorem mt_lcountF : MtR X "list.count" (rCntF X.K) := by
  intro pins s σ H x xs v us Q I rx rxs h
  obtain ⟨p, ys, y, rfl, rfl, hs, fy, fys, q⟩ := h
  cases rx
  obtain ⟨u, rfl, ru⟩ := rxs.one
  obtain ⟨its, rv, ⟨⟨cls, dd, data, sl⟩, n, ho, hc, hdn, hd⟩, hlen⟩ := I.list hs
  simp only at hc hd
  subst hc hd
  refine call_meets PySem.F.slot_list_count ⟨_, ho, rfl⟩ PySem.F.entry_list_count (PySem.F.args_list_count_2 _ _)
    (SeqAt.list_countAt p its.toArray n dd sl u (eqU y)) ⟨ho, fun u' hu' => mem_eqAt ru fy rv fys u' (by simpa using hu'), ?_⟩
  have ec : its.toArray.toList.countP (eqU y) = ys.countP fun z => eqV z y := countU rv fys
  refine ⟨.int (ys.countP (fun z => eqV z y) : Nat), H, I.tok _, ⟨s.toks, ?_⟩, q⟩
  show Value.int ((its.toArray.toList.countP (eqU y) : Nat) : Int) s.toks = _
  rw [ec]
/-- xs.count(y), all flat -/
@[simp] def pCnt : SV → SV → Sto → Option SV := fun x y S => match y with
  | .d e => (asL x S).bind fun ds => if flatD e = true ∧ ds.all flatD = true then some (.d (.int (ds.countP (fun d => PyData.eqv d e) : Nat))) else none
  | _ => none
/-- where y stands first -/
def ixOf (e : PyData) : List PyData → Option Nat
  | [] => none
  | d :: ds => if PyData.eqv d e = true then some 0 else (ixOf e ds).map (· + 1)
theorem ixOf_is {e : PyData} : ∀ {ds : List PyData} {j : Nat}, ixOf e ds = some j → ∃ d, ds[j]? = some d ∧ PyData.eqv d e = true ∧ ∀ (m : Nat) (d' : PyData), m < j → ds[m]? = some d' → PyData.eqv d' e = false
  | [], _, h => by cases h
  | d :: ds, j, h => by
    unfold ixOf at h
    split at h
    · rename_i hd
      cases h
      exact ⟨d, rfl, hd, fun m d' hm => absurd hm (Nat.not_lt_zero _)⟩
    · rename_i hd
      cases e1 : ixOf e ds with
      | none => rw [e1] at h; cases h
      | some i =>
        rw [e1] at h
        cases h
        obtain ⟨d2, h1, h2, h3⟩ := ixOf_is e1
        refine ⟨d2, by simpa using h1, h2, fun m d' hm hd' => ?_⟩
        cases m with
        | zero =>
          have : d' = d := by simpa using hd'.symm
          rw [this]; simpa using hd
        | succ m =>
          have hm : m + 1 < i + 1 := hm
          exact h3 m d' (by omega) (by simpa using hd')
/-- xs.index(y), all flat, y there -/
@[simp] def pIdx : SV → SV → Sto → Option SV := fun x y S => match y with
  | .d e => (asL x S).bind fun ds => if flatD e = true ∧ ds.all flatD = true then (ixOf e ds).map fun j => .d (.int (j : Nat)) else none
  | _ => none
theorem tyL {f : Ow} {S : Sto} {H : Hp} {v : V} {x : SV} {ds : List PyData} (hS : StoR X.K f S H) (r : SvR X.K f H v x) (e : asL x S = some ds) : tyV X.K "list" v H := by
  obtain ⟨p, xs, rfl, h1, _⟩ := asL_is hS r e
  exact .inl ⟨rfl, xs, .inl (.inl h1)⟩
/-- whether x is a list ahead of the arguments -/
@[simp] def eM2 (p : SV → SV → Sto → Option SV) (a b : Ex) (σ : Sg) (S : Sto) : Option (Res SV) := Res.bnd (a σ S) fun x S1 => match asL x S1 with
  | some _ => Res.bnd (b σ S1) fun y S2 => (p x y S2).map fun z => .ok z S2
  | none => none

theorem de_m2 {p : SV → SV → Sto → Option SV} {r : V → List V → Hp → VK → Prop} {σV : L2.St} {H : Hp} {Q : VK} (hk : ∀ (f : Ow) (S : Sto) (H : Hp) (vx vy : V) (x y z : SV) (Q : VK), StoR X.K f S H → SvR X.K f H vx x → SvR X.K f H vy y → p x y S = some z →
    (∀ (v : V) (H' : Hp), StoR X.K f S H' → Kp f H H' → SvR X.K f H' v z → Q v H') → r vx [vy] H Q) (h : TX X W (eM2 p ea eb) σV H Q) : tBM X.K "list" r (TX X W ea) (TXs X W (esCons eb esNil)) σV H Q := by
  obtain ⟨f, σ, S, q, hE, hS, hr, hq⟩ := h
  have hx := exc_way hq
  unfold eM2 at hr
  refine TX.first hE hS hr hx fun x S1 vx H1 _ h1 s1 k1 e1 r1 => ?_
  cases hl : asL x S1 with
  | none => rw [hl] at h1; cases h1
  | some ds =>
  rw [hl] at h1
  refine ⟨tyL s1 r1 hl, ?_⟩
  cases hb : eb σ S1 with
  | none => rw [hb] at h1; cases h1
  | some r2 =>
  rw [hb] at h1
  cases r2 with
  | exc y S2 =>
    cases h1
    exact ⟨f, σ, S1, .exc y S2, e1, s1, by simp [hb], XS.kp hq k1⟩
  | ok y S2 =>
  rw [bnd_ok] at h1
  cases hp : p x y S2 with
  | none => rw [hp] at h1; cases h1
  | some z =>
  rw [hp] at h1
  cases h1
  refine ⟨f, σ, S1, .ok [y] S2, e1, s1, by simp [hb], fun vs H2 s2 k2 r2 => ?_⟩
  cases r2 with
  | cons r2 r3 =>
  cases r3
  exact hk f S2 H2 vx _ x y z Q s2 (r1.kp k2) r2 hp fun v H' s' k' r' => hq v H' s' ((k1.trans k2).trans k') r'
theorem de_lcount (ho : DE X W a ea) (ha : DE X W b eb) (hbase : attributeBase a "count" X.env (eval a X.env) = eval a X.env := by rfl)
    (hfew : ((backTo pos (starEach [b] X.env)).all (fun x => !x.1) && (backToKw pos (keywordEach [] X.env)).all (fun x => x.1.isSome) && decide ([b].length + ([] : List Keyword).length + (if ([] : List Keyword).isEmpty then 0 else 1) < 30)) = true := by rfl)
    (hline : (p0.endLine == pos.line) = true := by rfl) (hs : starEach [b] X.env = (false, eval b X.env) :: starEach [] X.env := by rfl) (hpl : (backTo pos (starEach [] X.env)).any (·.1) = false := by rfl) :
    DE X W (.Call (.Attribute a "count" p0) [b] [] pos) (eM2 pCnt ea eb) :=
  pe_imp (pe_bm PySem.F.plainAttrs_list PySem.F.slot_list_count PySem.F.type_list_count mt_lcountF ho (da_cons ha da_nil hs) hbase hfew hline hs hpl) fun σV H Q h => de_m2 (fun f S H vx vy x y z Q hS rx ry hp hq => by
    unfold pCnt at hp
    split at hp
    · rename_i e
      cases hl : asL x S with
      | none => rw [hl] at hp; cases hp
      | some ds =>
      rw [hl] at hp
      dsimp only [Option.bind_some] at hp
      split at hp
      · rename_i hf
        cases hp
        obtain ⟨p, xs, rfl, h1, h2⟩ := asL_is hS rx hl
        refine ⟨p, xs, vy, rfl, rfl, .inl (.inl h1), flat_is ry hf.1, flats_is h2 hf.2, ?_⟩
        rw [countP_is ry hf.1 h2 hf.2]
        exact hq _ H hS (Kp.refl _ _) (Is.int _)
      · cases hp
    · cases hp) h
theorem de_lindex (ho : DE X W a ea) (ha : DE X W b eb) (hbase : attributeBase a "index" X.env (eval a X.env) = eval a X.env := by rfl)
    (hfew : ((backTo pos (starEach [b] X.env)).all (fun x => !x.1) && (backToKw pos (keywordEach [] X.env)).all (fun x => x.1.isSome) && decide ([b].length + ([] : List Keyword).length + (if ([] : List Keyword).isEmpty then 0 else 1) < 30)) = true := by rfl)
    (hline : (p0.endLine == pos.line) = true := by rfl) (hs : starEach [b] X.env = (false, eval b X.env) :: starEach [] X.env := by rfl) (hpl : (backTo pos (starEach [] X.env)).any (·.1) = false := by rfl) :
    DE X W (.Call (.Attribute a "index" p0) [b] [] pos) (eM2 pIdx ea eb) :=
  pe_imp (pe_bm PySem.F.plainAttrs_list PySem.F.slot_list_index PySem.F.type_list_index mt_index ho (da_cons ha da_nil hs) hbase hfew hline hs hpl) fun σV H Q h => de_m2 (fun f S H vx vy x y z Q hS rx ry hp hq => by
    unfold pIdx at hp
    split at hp
    · rename_i e
      cases hl : asL x S with
      | none => rw [hl] at hp; cases hp
      | some ds =>
      rw [hl] at hp
      dsimp only [Option.bind_some] at hp
      split at hp
      · rename_i hf
        cases hi : ixOf e ds with
        | none => rw [hi] at hp; cases hp
        | some j =>
        rw [hi] at hp
        cases hp
        obtain ⟨p, xs, rfl, h1, h2⟩ := asL_is hS rx hl
        obtain ⟨d, hd, he, hno⟩ := ixOf_is hi
        obtain ⟨v, hv, iv⟩ := h2.get hd
        have fl : ∀ {m : Nat} {d : PyData}, ds[m]? = some d → flatD d = true := fun {m d} h => List.all_eq_true.mp hf.2 d (List.mem_of_getElem? h)
        refine ⟨p, xs, vy, j, v, rfl, rfl, .inl (.inl h1), flat_is ry hf.1, flats_is h2 hf.2, hv, ?_, fun m z' hm hz' => ?_, hq _ H hS (Kp.refl _ _) (Is.int _)⟩
        · rw [eqv_flat iv ry (fl hd) hf.1]
          exact he
        · have hml : m < ds.length := by
            have := (List.getElem?_eq_some_iff.mp hd).1
            omega
          obtain ⟨v', hv', iv'⟩ := h2.get (List.getElem?_eq_getElem hml)
          rw [hz'] at hv'
          cases hv'
          rw [eqv_flat iv' ry (fl (List.getElem?_eq_getElem hml)) hf.1]
          exact hno m _ hm (List.getElem?_eq_getElem hml)
      · cases hp
    · cases hp) h
/-! ## is -/
@[simp] def pIs : SV → SV → Sto → Option SV := fun x y _ => match y with
  | .d .none => match x with
    | .d .none => some (.d (.bool true))
    | .d _ => some (.d (.bool false))
    | _ => none
  | .d (.bool b) => match x with
    | .d (.bool a) => some (.d (.bool (decide (a = b))))
    | _ => none
  | _ => none
@[simp] def pIsNot : SV → SV → Sto → Option SV := fun x y _ => match y with
  | .d .none => match x with
    | .d .none => some (.d (.bool false))
    | .d _ => some (.d (.bool true))
    | _ => none
  | .d (.bool b) => match x with
    | .d (.bool a) => some (.d (.bool (!decide (a = b))))
    | _ => none
  | _ => none
theorem is_non {K : PySem.W.Frag} {f : Ow} {H : Hp} {v : V} {d : PyData} (h : Is K f H v d) (n : d ≠ .none) : v ≠ .non := by
  intro e
  subst e
  cases h
  exact n rfl
theorem opk_is : OpK X (fun x y H Q => (y = .non ∧ Q (.bl (decide (x = .non))) H) ∨ (∃ a b, x = .bl a ∧ y = .bl b ∧ Q (.bl (decide (a = b))) H)) pIs := by
  intro f S H vx vy x y z Q hS rx ry hp hq
  unfold pIs at hp
  split at hp
  · cases ry
    split at hp
    · cases hp
      cases rx
      exact .inl ⟨rfl, by simpa using hq _ H hS (Kp.refl _ _) (Is.bl true)⟩
    · rename_i d hd
      cases hp
      have := is_non rx (fun e => hd (by rw [e]))
      refine .inl ⟨rfl, ?_⟩
      rw [decide_eq_false this]
      exact hq _ H hS (Kp.refl _ _) (Is.bl false)
    · cases hp
  · cases ry
    split at hp
    · cases hp
      cases rx
      exact .inr ⟨_, _, rfl, rfl, hq _ H hS (Kp.refl _ _) (Is.bl _)⟩
    · cases hp
  · cases hp
theorem opk_isnot : OpK X (fun x y H Q => (y = .non ∧ Q (.bl (!decide (x = .non))) H) ∨ (∃ a b, x = .bl a ∧ y = .bl b ∧ Q (.bl (!decide (a = b))) H)) pIsNot := by
  intro f S H vx vy x y z Q hS rx ry hp hq
  unfold pIsNot at hp
  split at hp
  · cases ry
    split at hp
    · cases hp
      cases rx
      exact .inl ⟨rfl, by simpa using hq _ H hS (Kp.refl _ _) (Is.bl false)⟩
    · rename_i d hd
      cases hp
      have := is_non rx (fun e => hd (by rw [e]))
      refine .inl ⟨rfl, ?_⟩
      rw [decide_eq_false this]
      exact hq _ H hS (Kp.refl _ _) (Is.bl true)
    · cases hp
  · cases ry
    split at hp
    · cases hp
      cases rx
      exact .inr ⟨_, _, rfl, rfl, hq _ H hS (Kp.refl _ _) (Is.bl _)⟩
    · cases hp
  · cases hp
theorem de_is (ha : DE X W a ea) (hb : DE X W b eb) : DE X W (.Compare a [.Is] [b] pos) (eBin pIs ea eb) := de_cmp (OpR.or op_isN op_is_bl) opk_is ha hb (nomark _)
theorem de_isnot (ha : DE X W a ea) (hb : DE X W b eb) : DE X W (.Compare a [.IsNot] [b] pos) (eBin pIsNot ea eb) := de_cmp (OpR.or op_notN op_isnot_bl) opk_isnot ha hb (nomark _)
theorem dt_is (ha : DE X W a ea) (hb : DE X W b eb) : DT X W (.Compare a [.Is] [b] pos) (tVal (eBin pIs ea eb)) := dt_cmp (OpR.or op_isN op_is_bl) opk_is ha hb (nomark _)
theorem dt_isnot (ha : DE X W a ea) (hb : DE X W b eb) : DT X W (.Compare a [.IsNot] [b] pos) (tVal (eBin pIsNot ea eb)) := dt_cmp (OpR.or op_notN op_isnot_bl) opk_isnot ha hb (nomark _)
/-! ## x, y, z = a, b, c -/
@[simp] def sPar3 (i j l : Nat) (as : Exs) (σ : Sg) (S : Sto) : Option Flow := Sm.bnd (as σ S) fun vs S1 => match vs with
  | [x, y, z] => some (.nx (((σ.set i (some x)).set j (some y)).set l (some z)) S1)
  | _ => none
theorem ds_par3 {i j l : Nat} {x y z : Str} {a b c : Expr} {fs : Exs} {px py pz pt : Pos} {kt k2 pt2} (hc : X.calm = true) (hN : X.N.Nodup) (ha : DA X W [a, b, c] fs) (hi : X.N[i]? = some x := by rfl) (hj : X.N[j]? = some y := by rfl) (hl : X.N[l]? = some z := by rfl) (hij : i ≠ j := by decide) (hil : i ≠ l := by decide) (hjl : j ≠ l := by decide)
    (hx : X.env.scope.names.lookup x = some .local := by rfl) (hy : X.env.scope.names.lookup y = some .local := by rfl) (hz : X.env.scope.names.lookup z = some .local := by rfl)
    (hw : swappedStores [.Tuple [.Name x px, .Name y py, .Name z pz] kt pt] (.Tuple [a, b, c] k2 pt2) X.env = pure (some [x, y, z]) := by rfl)
    (hs : swapsWithSole [.Tuple [.Name x px, .Name y py, .Name z pz] kt pt] (.Tuple [a, b, c] k2 pt2) pos.line X.env = pure false := by rfl) :
    DS X W (.Assign [.Tuple [.Name x px, .Name y py, .Name z pz] kt pt] (.Tuple [a, b, c] k2 pt2) pos) (sPar3 i j l fs) :=
  ps_imp (ps_par3 hc hN hi hj hl hij hil hjl hx hy hz ha hw hs) fun D σV H ⟨f, σ, S, r, hE, hS, hr, hf⟩ => by
    refine TXs.stm hE hS hr hf fun vs S1 us H1 h1 f1 s1 k1 e1 r1 => ?_
    split at h1
    · cases h1
      cases r1 with
      | cons p1 q1 =>
      cases q1 with
      | cons p2 q2 =>
      cases q2 with
      | cons p3 q3 =>
      cases q3
      exact ⟨_, _, _, rfl, ReS.now f1 s1 (((e1.set i p1).set j p2).set l p3)⟩
    · cases h1
/-! ## {} -/
theorem de_dict0 : DE X W (.Dict [] [] pos) (eLit (.dict [])) := pe_imp pe_dnewK fun σV H Q ⟨f, σ, S, r, hE, hS, he, hq⟩ => by
  cases he
  exact fun p np => hq _ _ (hS.laid np) (Kp.new np) (Is.dic (.inl upd_same) (hS.free np) .nil)
end
end Z
set_option maxRecDepth 100000
set_option maxHeartbeats 2000000
namespace Z
open PySem PySem.Spec PyProof.Rows L2 LamX

/-! ## classes of errors, all at once -/
structure Kl (K : PySem.W.Frag) (mg : Str → Option Value) (n : Str) where
  C : Addr
  ns : PySem.W.nsIn K mainGlobals n = some (some (.ref C))
  m : mg n = some (.ref C)
  kC : PySem.W.keepIn K (.ref C) = true
  cl : PySem.W.isClsIn K C = true
  ty : PySem.W.typeIn K (.ref C) = some (.type "type")
  ex : PySem.W.subIn K (.ref C) (.type "BaseException") = some true
  ss : PySem.W.subIn K (.ref C) (.ref C) = some true
  ga : PySem.W.findIn K (.ref C) "__getattribute__" = some (some (.builtin "BaseException.__getattribute__"))
  gg : PySem.W.findIn K (.ref C) "__getattr__" = some none
  hd : PySem.W.hasDictIn K C = true
  ha : PySem.W.findIn K (.ref C) "__class__" = some (some (.builtin "object.__class__"))
  hm : PySem.W.mroIn K C (.type "object") = some true
/-- what all classes share -/
structure KlG (K : PySem.W.Frag) : Prop where
  hn : PySem.W.specialIn K (.builtin "object.__class__") "__get__" = some (some (.builtin "getset_descriptor.__get__"))
  ht : PySem.W.takesIn K (.builtin "object.__class__") = some true
section
variable {K : PySem.W.Frag} {mg : Str → Option Value} {n n2 : Str}
theorem Kl.isC (k : Kl K mg n) (G : KlG K) : IsC K k.C := ⟨k.cl, k.ga, k.gg, k.ex, k.hd, k.ha, G.hn, G.ht, k.hm⟩
theorem Kl.xf (k : Kl K mg n) : XfC K k.C := ⟨k.ga, k.gg, k.ex, k.hd⟩
def Kl.msg (k : Kl K mg n) (h : PySem.W.excIn K k.C [.type "ValueError", .type "Exception", .type "BaseException", .type "object"] "ValueError.__new__" = true) : MsgC K mg n := ⟨k.C, k.ns, k.m, h, k.kC, k.ex, k.ty⟩
theorem kitCls_of {t : Value} {C : Addr} {b : Bool} (cl : PySem.W.isClsIn K C = true) (ty : PySem.W.typeIn K (.ref C) = some (.type "type")) (h : PySem.W.subIn K t (.ref C) = some b) : PySem.W.kitCls K t (.ref C) = some b := by
  unfold PySem.W.kitCls
  have e : ((PySem.W.clsIn K C).isSome && PySem.W.typeIn K (.ref C) == some (.type "type")) = true := by
    rw [ty]
    have : (PySem.W.clsIn K C).isSome = true := cl
    rw [this]
    simp
  simp only [e, if_true]
  exact h
/-- which classes are told, and whether they are below c -/
abbrev Subs := List (Str × Bool)
def SubsOk (K : PySem.W.Frag) (c : Value) (l : Subs) : Prop := ∀ p ∈ l, ∃ D, PySem.W.nsIn K mainGlobals p.1 = some (some (.ref D)) ∧ IsC K D ∧ PySem.W.kitOne K (.ref D) c = some p.2 ∧ PySem.W.kitCls K (.ref D) c = some p.2
theorem SubsOk.nil {c : Value} : SubsOk K c [] := fun p h => nomatch h
theorem SubsOk.cons {b : Bool} {l : Subs} (k : Kl K mg n) (q : Kl K mg n2) (G : KlG K) (h : PySem.W.subIn K (.ref k.C) (.ref q.C) = some b) (r : SubsOk K (.ref q.C) l) : SubsOk K (.ref q.C) ((n, b) :: l) := fun p hp => by
  rcases List.mem_cons.mp hp with e | hp
  · subst e
    have h2 := kitCls_of q.cl q.ty h
    refine ⟨k.C, k.ns, k.isC G, ?_, h2⟩
    unfold PySem.W.kitOne
    by_cases e : (Value.ref k.C == Value.ref q.C) = true
    · rw [if_pos e]
      have e2 : Value.ref k.C = Value.ref q.C := by simpa using e
      rw [e2, q.ss] at h
      exact h
    · rw [if_neg e]
      exact h2
  · exact r p hp
theorem SubsOk.consB {b : Bool} {l : Subs} {T : String} (k : Kl K mg n) (G : KlG K) (hk : PySem.W.kitMeta T = true) (h : PySem.W.subIn K (.ref k.C) (.type T) = some b) (r : SubsOk K (.type T) l) : SubsOk K (.type T) ((n, b) :: l) := fun p hp => by
  rcases List.mem_cons.mp hp with e | hp
  · subst e
    have h2 : PySem.W.kitCls K (.ref k.C) (.type T) = some b := by
      unfold PySem.W.kitCls
      simp only [hk, if_true]
      exact h
    refine ⟨k.C, k.ns, k.isC G, ?_, h2⟩
    unfold PySem.W.kitOne
    rw [if_neg (by simp)]
    exact h2
  · exact r p hp
theorem SubsOk.look {c : Value} {l : Subs} (S : SubsOk K c l) {z : Str} {u : Value} {b : Bool} (h1 : PySem.W.nsIn K mainGlobals z = some (some u)) (h2 : l.lookup z = some b) : ∃ D, u = .ref D ∧ IsC K D ∧ PySem.W.kitOne K (.ref D) c = some b ∧ PySem.W.kitCls K (.ref D) c = some b := by
  obtain ⟨D, e1, e2, e3, e4⟩ := S (z, b) (PySem.mem_of_lookup h2)
  have e1 : PySem.W.nsIn K mainGlobals z = some (some (.ref D)) := e1
  rw [h1] at e1
  cases e1
  exact ⟨D, rfl, e2, e3, e4⟩
theorem SubsOk.exm {c : Value} {l : Subs} (S : SubsOk K c l) (hc : PySem.W.subIn K c (.type "BaseException") = some true) {z : Str} {u : Value} {b : Bool} (h1 : PySem.W.nsIn K mainGlobals z = some (some u)) (h2 : l.lookup z = some b) : PySem.W.exmOne K u c = some b := by
  obtain ⟨D, rfl, _, _, e4⟩ := S.look h1 h2
  unfold PySem.W.exmOne
  rw [if_pos (by rw [hc]; simp)]
  exact e4
end
/-- own exceptions that keep a field: the class from its text -/
theorem clV_ref (C : Addr) : ClV (.ref C) (.ref C) := fun u h => h
theorem clV_ty (n : String) : ClV (.ty n) (.type n) := fun u h => h
section
variable {X : Cx} {W : WX} {a : Addr} {oe : Obj} {cls : Value} {d : Option Addr} {pn : List (Addr × Obj)} {e : Expr} {ee : Ex} {n : Str} {l : Subs} {p0 p1 pos : Pos}
theorem de_isK (hz : Zc cls d oe) (hf : ∃ vs, oe.data = .fields vs) (hm : X.mg "isinstance" = none) (he : DE (X.suite a ((a, oe) :: pn)) W e ee) (k : Kl X.K X.mg n) (S : SubsOk X.K (.ref k.C) l) (hgn : Gl (X.suite a ((a, oe) :: pn)) n := by rfl) (hdb : (n == ("__debug__" : Str)) = false := by decide) (hg : Gl X "isinstance" := by rfl)
    (h1 : starEach [e, .Name n p1] X.env = (false, eval e X.env) :: starEach [.Name n p1] X.env := by rfl) (h2 : starEach [.Name n p1] X.env = (false, eval (.Name n p1) X.env) :: starEach [] X.env := by rfl)
    (hpl : (backTo pos (starEach [.Name n p1] X.env)).any (·.1) = false := by rfl) : DE (X.suite a ((a, oe) :: pn)) W (.Call (.Name "isinstance" p0) [e, .Name n p1] [] pos) (eIsX a cls d (fun z => l.lookup z) ee) :=
  de_isX hz hf hm he (pe_glob hgn k.m (show RelV (.ref k.C) (.ref k.C) from rfl) hdb) (clV_ref k.C) (fun z u b h1 h2 => let ⟨D, e1, e2, e3, _⟩ := S.look h1 h2; ⟨D, e1, e2, e3⟩) hg h1 h2 hpl
theorem de_isB {T : String} (hz : Zc cls d oe) (hf : ∃ vs, oe.data = .fields vs) (hm : X.mg "isinstance" = none) (he : DE (X.suite a ((a, oe) :: pn)) W e ee) (hmT : X.mg (Str.ofString T) = none) (hb : bootBuiltins (Str.ofString T) = some (.type T)) (S : SubsOk X.K (.type T) l) (hgn : Gl (X.suite a ((a, oe) :: pn)) (Str.ofString T) := by rfl)
    (hnn : Str.ofString T ≠ "__name__" := by decide) (hdb : (Str.ofString T == ("__debug__" : Str)) = false := by decide) (hg : Gl X "isinstance" := by rfl)
    (h1 : starEach [e, .Name (Str.ofString T) p1] X.env = (false, eval e X.env) :: starEach [.Name (Str.ofString T) p1] X.env := by rfl) (h2 : starEach [.Name (Str.ofString T) p1] X.env = (false, eval (.Name (Str.ofString T) p1) X.env) :: starEach [] X.env := by rfl)
    (hpl : (backTo pos (starEach [.Name (Str.ofString T) p1] X.env)).any (·.1) = false := by rfl) : DE (X.suite a ((a, oe) :: pn)) W (.Call (.Name "isinstance" p0) [e, .Name (Str.ofString T) p1] [] pos) (eIsX a cls d (fun z => l.lookup z) ee) :=
  de_isX hz hf hm he (pe_bltn (v := .ty T) hgn hmT hb rfl hnn hdb) (clV_ty T) (fun z u b h1 h2 => let ⟨D, e1, e2, e3, _⟩ := S.look h1 h2; ⟨D, e1, e2, e3⟩) hg h1 h2 hpl
/-- e.f of a caught error of the class n -/
theorem de_fldK {f : Str} (hz : Zc cls d oe) (hf : ∃ vs, oe.data = .fields vs) (k : Kl X.K X.mg n) (hno : PySem.W.findIn X.K (.ref k.C) f = some none) (he : DE (X.suite a ((a, oe) :: pn)) W e ee)
    (hb : attributeBase e f X.env (eval e X.env) = eval e X.env := by rfl) : DE (X.suite a ((a, oe) :: pn)) W (.Attribute e f pos) (eFld a cls d f (fun z => z == n) ee) :=
  de_fld (C := k.C) hz hf (fun z u h1 h2 => by
    have e : z = n := by simpa using h2
    rw [e, k.ns] at h1
    cases h1
    rfl) k.xf hno he hb
/-- a clause `except n as m` -/
theorem clsD_cons {nm : Str} {i : Nat} {l : Subs} {m : Addr → Value → Option Addr → Sm} {b0 : Stmt} {su : List Stmt} {np hp : Pos} {hds : List ExceptHandler} {cs : List CD} (k : Kl X.K X.mg n) (S : SubsOk X.K (.ref k.C) l) (hg : Gl X n) (hdb : (n == ("__debug__" : Str)) = false) (hi : X.N[i]? = some nm) (hln : X.env.kindOf nm = some .local)
    (hsu : ∀ (a : Addr) (oe : Obj) (cls : Value) (d : Option Addr) (pn : List (Addr × Obj)), Zc cls d oe → (∃ vs, oe.data = .fields vs) → DB (X.suite a ((a, oe) :: pn)) W0 (b0 :: su) (m a cls d)) (r : ClsD X hds cs) :
    ClsD X (.ExceptHandler (some (.Name n np)) (some nm) (b0 :: su) hp :: hds) (⟨i, fun z => l.lookup z, m⟩ :: cs) :=
  .cons (q := ⟨i, fun z => l.lookup z, m⟩) ⟨hg, hdb, .inl k.m⟩ hi hln (fun y cls b h1 h2 => S.exm k.ex h1 h2) hsu r
end
/-- the context of a lambda's body -/
theorem gd_lam {X : Cx} {A : Around} {outer : List Env} {s : Shared} {H : Hp} {E : XK} {scope : Scope} {f c2 : Addr} {k : Nat} (nd : X.N.Nodup) (hr : Room k (A.deeper (lamEnv X scope s.heap.objs.size f c2))) (hg : A.guards = some []) : Gd (lamCx X A outer s H E scope f c2) (WE E) k :=
  ⟨hr, hg, rfl, nd, takes_of rfl rfl rfl rfl, passes_of rfl⟩
theorem Gq.q {X : Cx} (g : Gq X) : Gq X := g
/-- an own class of errors that keep a field, from what is written of it -/
noncomputable def fld_mk {P : Program} {w : World} {K : PySem.W.Frag} {mg : Str → Option Value} {base : Heap} {n f : Str} {B nid iid : String} {bmB : List Value} {fI : Addr} {qual : Str} {params : Arguments} {scope : Scope} {kV doc pm cdv ct oc : Value} {an od : Option Addr} {osl : Array (Option Value)} {sf vn : Str} {p1 p2 p3 p4 p5 p6 p7 p8 p9 p10 : Pos}
    (k : Kl K mg n) (KB : KBase B nid iid bmB) (made : PySem.W.excInitIn K k.C bmB nid = true) (over : PySem.W.excOver K k.C bmB = true) (sa : PySem.W.findIn K (.ref k.C) "__setattr__" = some (some (.builtin "object.__setattr__"))) (hno : PySem.W.findIn K (.ref k.C) f = some none)
    (vV : PySem.W.findCls K (.type B) (.type "type") "__init__" = some (.val (.builtin iid))) (hmB : mg (Str.ofString B) = none) (iC : PySem.W.findIn K (.ref k.C) "__init__" = some (some (.ref fI))) (tI : PySem.W.typeIn K (.ref fI) = some (.type "function"))
    (lk : K.lookup fI = some ⟨oc, od, .func (PySem.W.fnOf "__init__" qual params [.Expr (.Call (.Attribute (.Name (Str.ofString B) p1) "__init__" p2) [.Name sf p3, .Name vn p4] [] p5) p6, .Assign [.Attribute (.Name sf p7) f p8] (.Name vn p9) p10] scope .none kV doc pm an cdv ct), osl⟩)
    (hcd : PySem.W.codeIn K cdv qual = true) (S : FnScope [sf, vn] [sf, vn] scope) (hgB : scope.names.lookup (Str.ofString B) = some .globalImplicit) (hsf : scope.names.lookup sf = some .local) (hvn : scope.names.lookup vn = some .local)
    (hc : ∀ env : Env, env.scope = scope → ∃ pl : Sem Bool, eval (.Call (.Attribute (.Name (Str.ofString B) p1) "__init__" p2) [.Name sf p3, .Name vn p4] [] p5) env = (do
      let ov ← eval (.Name (Str.ofString B) p1) env
      standAt p2.atName
      let (m, fst) ← holding [ov] (getMethod ov "__init__" pl)
      callWith p5 m fst (backTo p5 (starEach [.Name sf p3, .Name vn p4] env)) (backToKw p5 (keywordEach [] env))))
    (hb : Binds K (PySem.W.fnOf "__init__" qual params [.Expr (.Call (.Attribute (.Name (Str.ofString B) p1) "__init__" p2) [.Name sf p3, .Name vn p4] [] p5) p6, .Assign [.Attribute (.Name sf p7) f p8] (.Name vn p9) p10] scope .none kV doc pm an cdv ct) [sf, vn] [])
    (hn : Str.ofString B ≠ "__name__" := by decide) (hdb : (Str.ofString B == ("__debug__" : Str)) = false := by decide)
    (d1 : (sf == ("__debug__" : Str)) = false := by decide) (d2 : (sf == ("__classdict__" : Str)) = false := by decide) (d3 : (vn == ("__debug__" : Str)) = false := by decide) (d4 : (vn == ("__classdict__" : Str)) = false := by decide) : FldC P w K mg base n f :=
  have T : KeepC K k.C bmB nid := ⟨made, over, k.hd, sa, k.ex, k.ty, k.kC⟩
  ⟨k.C, B, nid, iid, bmB, k.ns, k.m, KB, T, fI, iC, tI, _, [sf, vn], fn_keep KB T hno vV hmB lk hcd S hgB hsf hvn hc hn hdb d1 d2 d3 d4, hb⟩
end Z
namespace Z
open PySem
/-- a lambda's name in the def x -/
abbrev lamQ (x : Str) : Str := (x ++ ".<locals>.") ++ "<lambda>"
theorem bt_IndexError : bootBuiltins (Str.ofString "IndexError") = some (.type "IndexError") := by decide +kernel
theorem bt_LookupError : bootBuiltins (Str.ofString "LookupError") = some (.type "LookupError") := by decide +kernel
theorem bt_KeyError : bootBuiltins (Str.ofString "KeyError") = some (.type "KeyError") := by decide +kernel
end Z
namespace Z
open PySem
/-- an item of a class's body -/
def clsItem (s : Stmt) (j : Nat) : Stmt := match s with
  | .ClassDef _ _ _ b _ _ _ _ _ _ _ => b.getD j (.Pass ⟨0, 0, 0, 0⟩)
  | _ => .Pass ⟨0, 0, 0, 0⟩
end Z
set_option maxRecDepth 100000
set_option maxHeartbeats 2000000
namespace Z
open PySem PySem.Spec PyProof.Rows L2 LamX

/-! ## a lambda of one parameter that captures nothing, handed to a def as its second argument -/
abbrev tl0 : XK → Hp → VK → Prop := fun _ _ _ => True
abbrev th0 : Th := fun _ => none
abbrev F0 : XK := fun _ _ _ => False
abbrev svP (p c : Addr) (q : Str) : SV := .t p c q tl0 th0
/-- what the lambda makes of its argument -/
def pOf (ee : Ex) (v : SV) (S : Sto) : Option (PyData × Sto) := match ee [some v] S with
  | some (.ok (.d u) S2) => some (u, S2)
  | _ => none
open Classical in
@[simp] noncomputable def ePr (p c : Addr) (q : Str) (i : Nat) (ee : Ex) (fs : Exs) (σ : Sg) (S : Sto) : Option (Res SV) :=
  if σ[i]? = some (some (svP p c q)) then Res.bnd (fs σ S) fun xs S1 => match xs with
    | [v] => (pOf ee v S1).map fun r => .ok (.d r.1) r.2
    | _ => none
  else none
theorem thR0 {K : PySem.W.Frag} {f : Ow} {H : Hp} : ThR K f H tl0 th0 := fun f2 H2 S2 r E Q kq g p hS he hr => nomatch he
/-- the context of its body -/
abbrev pCx (X : Cx) (A : Around) (outer : List Env) (s : Shared) (H : Hp) (scope : Scope) (f c2 : Addr) (y : Str) : Cx := cxOf (L2.CX X.prog X.w) X.prog X.w X.K X.mg X.base [y] (lamNm X) scope f (.ref c2) A outer s H F0
section
variable {X : Cx} {pins : List (Addr × Obj)} {σ : L2.St} {H : Hp} {s : Shared}
theorem de_pred {CXg : CXT} {Eg : XK} {Ng : List Str} {qg : Str} {sg : Scope} {g f c2 : Addr} {cdg pm ctv : Value} {params : Arguments} {body : Expr} {scope : Scope} {k i : Nat} {nm y : Str} {W : WX} {ee : Ex} {b : Expr} {es : List Expr} {fs : Exs} {p1 p2 : Pos}
    (I : Inv X pins σ H s) (L : FnScope [y] [y] scope) (hcl : cloFrom X.env.cells scope.names [] = []) (hf : s.heap.get? f = some (lamOb X params body scope pm c2 ctv)) (hfn : H f = none) (hfr : f ∉ frs X.stack)
    (hbind : ∀ u, bindArgs (PySem.W.kla_fn "<lambda>" (lamNm X) params body scope [] pm (.ref c2) ctv) ⟨[u], []⟩ = pure [(y, u)])
    (tk : Takes (cxOf CXg X.prog X.w X.K X.mg X.base Ng qg sg g cdg X.A X.stack s H Eg).nox W) (hr : Room (k + 1) (X.A.deeper (envOfC qg sg s.heap.objs.size g cdg))) (hgd : X.A.guards = some [])
    (hbody : ∀ (A : Around) (outer : List Env) (s : Shared) (H : Hp), Gd (pCx X A outer s H scope f c2 y) (Wo F0) k → DE (pCx X A outer s H scope f c2 y) (Wo F0) body ee)
    (hN : Ng[i]? = some nm) (hv : Vis sg nm) (hd : (nm == ("__debug__" : Str)) = false) (hcd : (nm == ("__classdict__" : Str)) = false)
    (ha : DA (cxOf CXg X.prog X.w X.K X.mg X.base Ng qg sg g cdg X.A X.stack s H Eg).nox W (b :: es) fs)
    (hst : starEach (b :: es) (envOfC qg sg s.heap.objs.size g cdg) = (false, eval b (envOfC qg sg s.heap.objs.size g cdg)) :: starEach es (envOfC qg sg s.heap.objs.size g cdg)) (hpl : (backTo p2 (starEach es (envOfC qg sg s.heap.objs.size g cdg))).any (·.1) = false) :
    DE (cxOf CXg X.prog X.w X.K X.mg X.base Ng qg sg g cdg X.A X.stack s H Eg).nox W (.Call (.Name nm p1) (b :: es) [] p2) (ePr f c2 (lamNm X) i ee fs) := by
  refine ⟨fun pinsZ sZ σZ HZ Q IZ ⟨fo, τ, S, r, hE, hS, hr2, hq⟩ => ?_⟩
  unfold ePr at hr2
  split at hr2
  case isFalse => cases hr2
  rename_i h0
  obtain ⟨v, ev, rv, rc, nc, rt⟩ := hE.get i _ h0
  subst rv
  have first := (pe_var (pos := p1) (i := i) hN hv hd hcd).run pinsZ sZ σZ HZ (fun v H1 => v = .ref f ∧ H1 = HZ) IZ ⟨.ref f, ev, rfl, rfl⟩
  refine wpAny_Call_Name_kw (thn first fun u s1 ⟨v, H1, I1, r1, ev, eH⟩ => ?_)
  subst ev eH
  obtain rfl : u = Value.ref f := r1
  have of1 : s1.heap.get? f = some (lamOb X params body scope pm c2 ctv) := I1.base.keep f _ hf hfn hfr (fun z => nomatch (show f ∈ ([] : List Addr) from z))
  have hA : TXs (cxOf CXg X.prog X.w X.K X.mg X.base Ng qg sg g cdg X.A X.stack s H Eg).nox W fs σZ H1 (fun vs H2 => ∃ (S1 : Sto) (v0 : SV) (S2 : Sto) (u : PyData), StoR X.K fo S1 H2 ∧ Kp fo H1 H2 ∧ Paired (SvR X.K fo H2) vs [v0] ∧ ee [some v0] S1 = some (.ok (.d u) S2) ∧ (∀ w H3, StoR X.K fo S2 H3 → Kp fo H1 H3 → SvR X.K fo H3 w (.d u) → Q w H3)) := by
    refine TXs.first hE hS hr2 (exc_way hq) fun xs S1 vs H2 _ h1 sS kk _ pr => ?_
    split at h1
    case h_2 => cases h1
    rename_i v0 _
    unfold pOf at h1
    split at h1
    case h_2 => cases h1
    rename_i u S2 he
    cases h1
    exact ⟨S1, v0, S2, u, sS, kk, pr, he, hq⟩
  refine PySem.W.callWith_F (env := envOfC qg sg s.heap.objs.size g cdg) ⟨_, _, _, _, of1⟩ (thn (ha.run p2 pinsZ s1 σZ H1 _ I1 hA) fun us s2 ⟨vs, H2, I2, rvs, S1, v0, S2, u, sS, kk, pr, he, hQ⟩ => ?_) hst hpl
  have of2 : s2.heap.get? f = some (lamOb X params body scope pm c2 ctv) := I2.base.keep f _ hf hfn hfr (fun z => nomatch (show f ∈ ([] : List Addr) from z))
  refine ⟨⟨_, _, _, _, of2⟩, ?_⟩
  have rc2 : H2 c2 = some (CodeO c2 (lamNm X)) := kk c2 _ nc.1 rc
  obtain ⟨⟨oc, vs1, t1, hoc, hdc, hvc⟩, _, _⟩ := I2.hok c2 _ rc2
  have hl : vs.length = 1 := Paired.length pr
  have hul : us.length = 1 := rvs.length.symm.trans hl
  have e0 := I2.env0
  have lim : s2.heap.NoLimit := e0.mod.nolimit.keeps fun b o e => (e0.bs b o e).1
  have hkind : ∀ z ∈ [y].zip us, scope.names.lookup z.1 = some .local ∨ (scope.names.lookup z.1 = some .cell ∧ ((cellsFrom (s2.heap.objs.size + 1) scope.names []).lookup z.1).isSome = true) := fun ⟨n, v⟩ hy => by
    rcases L.par n (List.of_mem_zip hy).1 with q | q
    · exact .inl q
    · exact .inr ⟨q, PySem.W.cellsFrom_some _ _ _ (.inl q)⟩
  have inner : codeAny (model X.prog X.w) (X.A.deeper (envOfC qg sg s.heap.objs.size g cdg)) (.call (.ref f) ⟨us, []⟩) (CR (L2.CX X.prog X.w) (envOfC qg sg s.heap.objs.size g cdg :: X.stack) X.prog X.w H2 s2 Q F0) s2 := by
    unfold lamOb at of2
    rw [hcl] at of2
    refine PySem.W.kla_callFunE hr.depth of2 rfl L.co L.gen rfl ⟨c2, oc, vs1, t1, rfl, hoc, hdc, hvc⟩ ?_
    match us, hul with
    | [u0], _ =>
    rw [hbind]
    refine wpAny_pure (wpAny_newFunctionEnv_cells L.kind hkind fun env ee2 s3 x => ?_)
    subst ee2
    refine ⟨lim.keeps x.toInCall.keep, ?_⟩
    have G : Gd (pCx X (X.A.deeper (envOfC qg sg s.heap.objs.size g cdg)) (envOfC qg sg s.heap.objs.size g cdg :: X.stack) s2 H2 scope f c2 y) (Wo F0) k := ⟨hr.deeper _, hgd, rfl, L.nd, takes_of rfl rfl rfl rfl, passes_of rfl⟩
    have I3 : Inv (pCx X (X.A.deeper (envOfC qg sg s.heap.objs.size g cdg)) (envOfC qg sg s.heap.objs.size g cdg :: X.stack) s2 H2 scope f c2 y) [] (L2.start [y] vs) H2 s3 := inv_start L hr.hd e0 hl rvs x
    refine PySem.W.kla_codeExpr (wpAny_mono ((hbody _ _ s2 H2 G).run [] s3 _ H2 Q I3 ⟨fo, _, S1, _, (show EnvR X.K fo H2 (L2.start [y] vs) [some v0] from start_env (n := 0) pr (by rw [hl]; rfl)), sS, he, fun w H3 s3 k3 r3 => hQ w H3 s3 (kk.trans k3) r3⟩) (fun v s4 ⟨w2, H3, J2, rv, q⟩ => ⟨w2, H3, J2.os, J2.bare, J2.base, J2.hok, rv, q⟩) fun e s' hq => hq)
  refine wpAny_call (codeAny_mono inner fun r s' hq => ?_)
  cases r with
  | error e => exact tk e s' (XE.of_call I2 (fun _ _ _ z => z.elim) hq)
  | ok fl =>
    cases fl with
    | ret u => exact I2.after hq
    | next => exact hq.elim
    | brk => exact hq.elim
    | cont => exact hq.elim
end
def lamPB (y : Str) (sc : Scope) : Bool := decide (sc.kind = .function) && !sc.isCoroutine && !sc.isGenerator && (decide (sc.names.lookup y = some .local) || decide (sc.names.lookup y = some .cell)) && sc.names.all fun z => !decide (z.2 = .free)
theorem lamP_by {y : Str} {sc : Scope} (h : lamPB y sc = true) : FnScope [y] [y] sc := by
  unfold lamPB at h
  simp only [Bool.and_eq_true, Bool.or_eq_true, Bool.not_eq_true', decide_eq_true_eq, decide_eq_false_iff_not, List.all_eq_true] at h
  obtain ⟨⟨⟨⟨h1, h2⟩, h3⟩, h4⟩, h5⟩ := h
  exact ⟨h1, h2, h3, by simp, rfl, fun x hx => by
    cases (List.mem_singleton.mp hx)
    exact h4, h5⟩
/-- x(e, lambda v: ..) does what gth says of the lambda's meaning -/
structure FnP (P : Program) (w : World) (K : PySem.W.Frag) (mg : Str → Option Value) (base : Heap) (k : Nat) (x : Str) (gth : Ex → SV → Sto → Option FR) where
  g : Addr
  pg : Arguments
  bg : List Stmt
  sg : Scope
  dV : Value
  kV : Value
  doc : Value
  pm : Value
  an : Option Addr
  cdv : Value
  ct : Value
  oc : Value
  od : Option Addr
  osl : Array (Option Value)
  Ng : List Str
  a0 : Str
  a : Str
  mgx : mg x = some (.ref g)
  kp : PySem.W.keepIn K (.ref g) = true
  lk : K.lookup g = some ⟨oc, od, .func (PySem.W.fnOf x x pg bg sg dV kV doc pm an cdv ct), osl⟩
  cd : PySem.W.codeIn K cdv x = true
  hb : Binds K (PySem.W.fnOf x x pg bg sg dV kV doc pm an cdv ct) [a0, a] []
  sc : FnScope Ng [a0, a] sg
  h0 : Ng[1]? = some a
  hv : Vis sg a
  d1 : (a == ("__debug__" : Str)) = false
  d2 : (a == ("__classdict__" : Str)) = false
  run : ∀ (A : Around) (stack : List Env) (f c2 : Addr) (q : Str) (s : Shared) (H : Hp) (Q : VK) (ee : Ex) (fo : Ow) (S : Sto) (v0 : V) (sv0 : SV) (r : FR), Room k (A.deeper (envOfC x sg s.heap.objs.size g cdv)) → A.guards = some [] →
    (∀ (b : Expr) (es : List Expr) (fs : Exs) (p1 p2 : Pos), DA (hCx P w K mg base Ng x sg g cdv A stack s H).nox W0 (b :: es) fs → starEach (b :: es) (envOfC x sg s.heap.objs.size g cdv) = (false, eval b (envOfC x sg s.heap.objs.size g cdv)) :: starEach es (envOfC x sg s.heap.objs.size g cdv) → (backTo p2 (starEach es (envOfC x sg s.heap.objs.size g cdv))).any (·.1) = false →
      DE (hCx P w K mg base Ng x sg g cdv A stack s H).nox W0 (.Call (.Name a p1) (b :: es) [] p2) (ePr f c2 q 1 ee fs)) →
    H c2 = some (CodeO c2 q) → fo.nx c2 → StoR K fo S H → SvR K fo H v0 sv0 → gth ee sv0 S = some r →
    (match r with
      | .ok v S2 => ∀ u H2, StoR K fo S2 H2 → Kp fo H H2 → SvR K fo H2 u v → Q u H2
      | _ => False) →
    ∃ t, PSs (hCx P w K mg base Ng x sg g cdv A stack s H).nox bg t ∧ t { nx := fun _ H2 => Q .non H2, rt := Q } (L2.start Ng [v0, .ref f]) H
open Classical in
@[simp] noncomputable def eHandP (i : Nat) (q : Str) (P : Addr) (gth : Ex → SV → Sto → Option FR) (ee ea : Ex) (σ : Sg) (S : Sto) : Option (Res SV) := Res.bnd (ea σ S) fun v0 S0 => match S0[i]? with
  | some (.tab q2 P2) => if q2 = q ∧ P2 = P then match gth ee v0 S0 with
      | some (.ok v S2) => some (.ok v S2)
      | _ => none
    else none
  | _ => none
theorem de_handedP {X : Cx} {W : WX} {k i : Nat} {c P : Addr} {x z y : Str} {gth : Ex → SV → Sto → Option FR} {params : Arguments} {body : Expr} {scope : Scope} {ee ea : Ex} {p pz lpos pos : Pos} (G : Gd X W (k + 2)) (F : FnP X.prog X.w X.K X.mg X.base (k + 1) x gth) (TB : TabB X.base X.mg c P) (hcode : X.env.code = .ref c)
    (L : FnScope [y] [y] scope) (hcl : cloFrom X.env.cells scope.names [] = []) (hdef : defaultsOf params X.env = ([], [])) (hbind : ∀ (q : Str) (pm cv ctv u : Value), bindArgs (PySem.W.kla_fn "<lambda>" q params body scope [] pm cv ctv) ⟨[u], []⟩ = pure [(y, u)])
    (hz : DE X W (.Name z pz) ea)
    (hbody : ∀ (A : Around) (outer : List Env) (s : Shared) (H : Hp) (f c2 : Addr), Gd (pCx X A outer s H scope f c2 y) (Wo F0) k → DE (pCx X A outer s H scope f c2 y) (Wo F0) body ee)
    (hg : Gl X x := by rfl) (hdb : (x == ("__debug__" : Str)) = false := by decide) : DE X W (.Call (.Name x p) [.Name z pz, .Lambda params body scope lpos] [] pos) (eHandP i (lamNm X) P gth ee ea) := by
  refine ⟨fun pins s σV H Q I ⟨fo, σ, S, r, hE, hS, hr, hq⟩ => ?_⟩
  unfold eHandP at hr
  have hA : TX X W ea σV H (fun v H0 => ∃ (sv0 : SV) (S0 : Sto) (r0 : SV) (S2 : Sto), StoR X.K fo S0 H0 ∧ Kp fo H H0 ∧ SvR X.K fo H0 v sv0 ∧ S0[i]? = some (.tab (lamNm X) P) ∧ gth ee sv0 S0 = some (.ok r0 S2) ∧ (∀ w H3, StoR X.K fo S2 H3 → Kp fo H H3 → SvR X.K fo H3 w r0 → Q w H3)) := by
    refine TX.first hE hS hr (exc_way hq) fun sv0 S0 v H0 _ h1 s0 k0 _ r0 => ?_
    split at h1
    case h_2 => cases h1
    rename_i q2 P2 ht
    split at h1
    case isFalse => cases h1
    rename_i hh
    obtain ⟨rfl, rfl⟩ := hh
    split at h1
    case h_2 => cases h1
    rename_i v2 S2 eg
    cases h1
    exact ⟨sv0, S0, v2, S2, s0, k0, r0, ht, eg, hq⟩
  refine wpAny_Call_Name_kw (ld_glob I hg F.mgx ?_ hdb)
  refine PySem.W.callWith_K (h₀ := X.base) I.ok.mod.kin F.kp ?_ (by rfl) (by rfl)
  show wpAny _ _ (spliced ((false, eval (.Name z pz) X.env) :: (false, eval (.Lambda params body scope lpos) X.env) :: backTo pos (starEach [] X.env))) _ _ s
  refine Calls.spliced_cons (thn (hz.run pins s σV H _ I hA) fun u0 s0 ⟨v0, H0, I0, rv0, sv0, S0, r0, S2, s0', k0, rs0, ht, eg, hQ⟩ => ?_)
  refine Calls.spliced_cons (lam_made I0 TB hcode s0' ht hdef (fun yy hy e => (L.nofree yy hy e).elim) fun f c2 pm2 ctv H1 s1 I1 S1 k1 hf hfn hfr hco nc => ?_)
  refine Calls.spliced_nil ⟨I1.kIn, ?_⟩
  have rc : codeAny (model X.prog X.w) X.A (.call (.ref F.g) ⟨[u0, .ref f], []⟩) (CR C8.CX0 X.stack X.prog X.w H1 s1 Q C8.E0) s1 := by
    refine run_ofS (N := F.Ng) (ps := [F.a0, F.a]) (us := [u0, .ref f]) (vs := [v0, .ref f]) F.lk F.cd F.sc G.hr I1.env0 (F.hb s1 [u0, .ref f] I1.kIn rfl) (.cons rv0 (.cons rfl .nil)) rfl fun hr2 => ?_
    obtain ⟨t2, h1, h2⟩ := F.run X.A X.stack f c2 (lamNm X) s1 H1 Q ee fo S0 v0 sv0 (.ok r0 S2) hr2 G.gd
      (fun b es fs p1 p2 hab hst hpl => de_pred I1 L hcl hf hfn hfr (fun u => hbind _ _ _ _ u) L2.takes0 hr2 G.gd (fun A outer s H g => hbody A outer s H f c2 g) F.h0 F.hv F.d1 F.d2 hab hst hpl) hco nc S1 (rs0.kp k1) eg
      (fun u H2 s2 k2 r2 => hQ u H2 s2 (k0.trans (k1.trans k2)) r2)
    exact ⟨t2, h1.nox, h2⟩
  refine wpAny_call (codeAny_mono rc fun r s2 hq => ?_)
  cases r with
  | error e => exact (show False from hq).elim
  | ok fl =>
    cases fl with
    | ret u => exact I1.after hq
    | next => exact False.elim hq
    | brk => exact False.elim hq
    | cont => exact False.elim hq
abbrev MPr := Addr → Addr → Str → Ex → Sm
open Classical in
noncomputable def runP (n : Nat) (mm : MPr) (ee : Ex) (v0 : SV) (S : Sto) : Option FR :=
  if h : ∃ r, ∀ p c q, fnRun n (mm p c q ee) [v0, svP p c q] S = some r then some h.choose else none
theorem runP_eq {n : Nat} {mm : MPr} {ee : Ex} {v0 : SV} {S : Sto} {r : FR} (h : ∀ p c q, fnRun n (mm p c q ee) [v0, svP p c q] S = some r) : runP n mm ee v0 S = some r := by
  have e : ∃ r, ∀ p c q, fnRun n (mm p c q ee) [v0, svP p c q] S = some r := ⟨r, h⟩
  unfold runP
  rw [dif_pos e]
  have h2 := e.choose_spec (0 : Nat) (0 : Nat) Str.empty
  rw [h] at h2
  exact h2.symm
theorem runP_at {n : Nat} {mm : MPr} {ee : Ex} {v0 : SV} {S : Sto} {r : FR} (h : runP n mm ee v0 S = some r) (p c : Addr) (q : Str) : fnRun n (mm p c q ee) [v0, svP p c q] S = some r := by
  unfold runP at h
  split at h
  · rename_i e
    cases h
    exact e.choose_spec p c q
  · cases h
/-- the predicate called in the context Y -/
abbrev ActP (Y : Cx) (a : Str) (p c : Addr) (q : Str) (ee : Ex) : Prop := ∀ (b : Expr) (es : List Expr) (fs : Exs) (p1 p2 : Pos), DA Y W0 (b :: es) fs → starEach (b :: es) Y.env = (false, eval b Y.env) :: starEach es Y.env → (backTo p2 (starEach es Y.env)).any (·.1) = false → DE Y W0 (.Call (.Name a p1) (b :: es) [] p2) (ePr p c q 1 ee fs)
section
variable {P : Program} {w : World} {K : PySem.W.Frag} {mg : Str → Option Value} {base : Heap} {k n : Nat} {x a0 a : Str} {st : Stmt} {g : Addr} {fd : FuncData} {Ng : List Str} {mm : MPr}
theorem fnP_def (F : Fun K x x st g fd) (hm : mg x = some (.ref g)) (sc : FnScope Ng [a0, a] (defScope st)) (h0 : Ng[1]? = some a) (hn : Ng.length - 2 = n) (hv : Vis (defScope st) a)
    (bd : ∀ (kV doc pm : Value) (an : Option Addr) (cdv ct : Value), L2.Binds K (PySem.W.fnOf x x (defArgs st) (defBody st) (defScope st) .none kV doc pm an cdv ct) [a0, a] [])
    (hb : ∀ (cdv : Value) (A : Around) (stack : List Env) (s : Shared) (H : Hp) (p c : Addr) (q : Str) (ee : Ex), Gd (hCx P w K mg base Ng x (defScope st) g cdv A stack s H).nox W0 k →
      ActP (hCx P w K mg base Ng x (defScope st) g cdv A stack s H).nox a p c q ee → DB (hCx P w K mg base Ng x (defScope st) g cdv A stack s H).nox W0 (defBody st) (mm p c q ee))
    (d1 : (a == ("__debug__" : Str)) = false := by decide) (d2 : (a == ("__classdict__" : Str)) = false := by decide) : Nonempty (FnP P w K mg base k x (runP n mm)) := by
  obtain ⟨oc, od, kV, doc, pm, an, cdv, ct, osl, rfl, lk, hcd⟩ := F.ex
  refine ⟨{ g := g, pg := defArgs st, bg := defBody st, sg := defScope st, dV := .none, kV := kV, doc := doc, pm := pm, an := an, cdv := cdv, ct := ct, oc := oc, od := od, osl := osl, Ng := Ng, a0 := a0, a := a, mgx := hm, kp := F.kp, lk := lk, cd := hcd, hb := bd _ _ _ _ _ _, sc := sc, h0 := h0, hv := hv, d1 := d1, d2 := d2, run := ?_ }⟩
  intro A stack p c q s H Q ee fo S v0 sv0 r hr hgd act hco nc hS hv0 hg hq
  have G : Gd (hCx P w K mg base Ng x (defScope st) g cdv A stack s H).nox W0 k := ⟨hr, hgd, rfl, sc.nd, L2.takes0, PassesOwn.never⟩
  refine ⟨_, hb cdv A stack s H p c q ee G act, ?_⟩
  have e := runP_at hg p c q
  unfold fnRun at e
  cases hmm : mm p c q ee ([sv0, svP p c q].map some ++ List.replicate n none) S with
  | none => rw [hmm] at e; cases e
  | some fl =>
    rw [hmm] at e
    have hp : Paired (SvR K fo H) [v0, V.ref p] [sv0, svP p c q] := .cons hv0 (.cons ⟨rfl, hco, nc, thR0⟩ .nil)
    refine ⟨fo, _, S, fl, start_env hp hn, hS, hmm, body_end (X := (hCx P w K mg base Ng x (defScope st) g cdv A stack s H).nox) (E := C8.E0) (svs := [sv0, svP p c q]) (fun _ _ _ _ z => z) hS e ?_⟩
    cases r with
    | ok v S2 => exact hq
    | nw o S2 => exact hq.elim
    | exc y S2 => exact hq.elim
end
/-! ## {a: b} -/
section
variable {X : Cx} {W : WX} {j1 j2 : Nat} {p1 p2 pos : Pos}
theorem de_dict1 {a b : Int} : DE X W (.Dict [some (.Constant (.int a) j1 p1)] [.Constant (.int b) j2 p2] pos) (eLit (.dict [(.int a, .int b)])) := pe_imp (pe_disp (pps_cons pe_int pe_int pps_nil) rfl rfl (by simp) (by simp)) fun σV H Q ⟨f, σ, S, r, hE, hS, he, hq⟩ => by
  cases he
  intro p np
  refine ⟨upd_same, [(.inl a, .int b)], rfl, by simp, ?_⟩
  rw [upd_upd]
  exact hq _ _ (hS.laid np) (Kp.new np) (Is.dic (.inl upd_same) (hS.free np) (.cons (.int b) .nil))
end
end Z
set_option maxRecDepth 100000
set_option maxHeartbeats 2000000
namespace Z
open PySem PySem.Spec PyProof.Rows L2 LamX

/-! ## a lambda of one parameter that captures flat data -/
/-- one parameter y, no other name of its own: captured ones and globals -/
structure LamC (sc scope : Scope) (y : Str) : Prop where
  kind : scope.kind = .function
  co : scope.isCoroutine = false
  gen : scope.isGenerator = false
  par : scope.names.lookup y = some .local
  own : ∀ z ∈ scope.names, z.2 ≠ .cell ∧ (z.2 = .local → z.1 = y)
  free : ∀ z ∈ scope.names, z.2 = .free → sc.names.lookup z.1 = some .cell ∨ sc.names.lookup z.1 = some .free
def lamCB (sc scope : Scope) (y : Str) : Bool :=
  decide (scope.kind = .function) && !scope.isCoroutine && !scope.isGenerator && decide (scope.names.lookup y = some .local) && scope.names.all fun z => !decide (z.2 = .cell) && (!decide (z.2 = .local) || decide (z.1 = y)) && (!decide (z.2 = .free) || decide (sc.names.lookup z.1 = some .cell) || decide (sc.names.lookup z.1 = some .free))
theorem lamC_by {sc scope : Scope} {y : Str} (h : lamCB sc scope y = true) : LamC sc scope y := by
  unfold lamCB at h
  simp only [Bool.and_eq_true, Bool.or_eq_true, Bool.not_eq_true', decide_eq_true_eq, decide_eq_false_iff_not, List.all_eq_true] at h
  obtain ⟨⟨⟨⟨h1, h2⟩, h3⟩, h4⟩, h5⟩ := h
  refine ⟨h1, h2, h3, h4, fun z hz => ⟨(h5 z hz).1.1, fun e => (h5 z hz).1.2.resolve_left fun q => q e⟩, fun z hz e => ?_⟩
  rcases (h5 z hz).2 with (q | q) | q
  · exact absurd e q
  · exact .inl q
  · exact .inr q
theorem LamC.has {X : Cx} {scope : Scope} {y : Str} (L : LamC X.env.scope scope y) (ok : X.Ok) : ∀ z ∈ scope.names, z.2 = .free → ∃ c, X.env.cells.lookup z.1 = some c := fun y hy e => by
  rcases L.free y hy e with k | k
  · exact ok.has _ (.inl k)
  · exact ok.has _ (.inr k)
/-- the context of its body -/
def lamPCx (X : Cx) (A : Around) (outer : List Env) (s : Shared) (H : Hp) (E : XK) (scope : Scope) (f c' : Addr) (y : Str) : Cx := { lamCx X A outer s H E scope f c' with N := X.N ++ [y] }
section
variable {X : Cx} {pins : List (Addr × Obj)} {σ : L2.St} {H HZ : Hp} {s s1 : Shared}
theorem lamP_start {A : Around} {outer : List Env} {E : XK} {scope : Scope} {f c' : Addr} {y : Str} {h₁ : Heap} {tk : Nat} {u : Value} {v : V} (I : Inv X pins σ H s) (L : LamC X.env.scope scope y) (e0 : Env0 X.prog X.w X.K X.mg X.base A outer s1 HZ) (hd : A.handled = none) (ru : RelV v u) (hyN : y ∉ X.N)
    (un : Un (frs X.stack) [] H HZ s.heap s1.heap) (hns : h₁.Ns s1.heap.objs.size fun z => ([(y, u)] : List (Str × Value)).reverse.lookup z) (kp : ∀ b o, s1.heap.get? b = some o → h₁.get? b = some o) :
    Inv (lamPCx X A outer s1 HZ E scope f c' y) [] (σ ++ [some v]) HZ { s1 with heap := h₁, toks := tk } := by
  have hfree := L.has I.ok
  have cm : ∀ {y c}, (cloFrom X.env.cells scope.names []).lookup y = some c → X.env.cells.lookup y = some c := fun {y c} e => by
    rcases cloFrom_mem (PySem.mem_of_lookup e) with hm | ⟨h1, h2⟩
    · cases hm
    · obtain ⟨c1, hc⟩ := hfree _ h1 rfl
      have hc : X.env.cells.lookup y = some c1 := hc
      have e2 : c = c1 := by
        rw [h2, hc] <;> rfl
      rw [e2]
      exact hc
  have look : ∀ {y}, scope.names.lookup y = some .free → ∃ c, (cloFrom X.env.cells scope.names []).lookup y = some c := fun {y} hl => by
    have hy : (y, NameKind.free) ∈ scope.names := PySem.mem_of_lookup hl
    exact mem_lookup (cloFrom_has (cells := X.env.cells) (acc := []) hy)
  have cellK : ∀ {c : Addr} {v : Option Value}, H c = none → s.heap.IsCell c v → h₁.IsCell c v := fun {c v} n ⟨o, ho, hd⟩ => by
    obtain ⟨sl, q⟩ := un.any ho n (by simp)
    exact ⟨_, kp _ _ q, hd⟩
  have noA : ∀ b : Addr, b ∉ (lamPCx X A outer s1 HZ E scope f c' y).ex := fun b z => absurd (show b ∈ ([] : List Addr) from z) (by simp)
  refine ⟨⟨e0.mod, L.kind, rfl, rfl, Nat.le_refl _, fun y z c e1 e2 => I.ok.inj y z c (cm e1) (cm e2), fun y hy => ?_, fun y c z _ => ?_, fun _ => hd, Around.frames_deeper e0.frames, .inr ⟨rfl, rfl⟩, fun b z => absurd z (noA b), e0.bs, e0.bsz, fun b _ _ => noA b,
      fun b z => absurd z (noA b), e0.funs, e0.frf⟩,
    rfl, e0.bare, Un.kept kp, ⟨_, hns, fun i z w e1 e2 e3 => ?_⟩, fun y c e => ?_, e0.hok.fresh (Nat.le_refl _), fun y c e => ?_, fun q hq => absurd (show q ∈ ([] : List (Addr × Obj)) ++ [] from hq) (by simp), e0.hok.kept kp, by show (σ ++ [some v]).length = (X.N ++ [y]).length; simp [I.len]⟩
  · have hy : scope.names.lookup y = some .cell ∨ scope.names.lookup y = some .free := hy
    rcases hy with hy | hy
    · exact absurd rfl (L.own _ (PySem.mem_of_lookup hy)).1
    · exact look hy
  · have z : false = true := z
    cases z
  · have e3 : Vis scope z := e3
    have e1 : (X.N ++ [y])[i]? = some z := e1
    have hlen := I.len
    rcases e3 with k | k | k
    · have hz : z = y := (L.own _ (PySem.mem_of_lookup k)).2 rfl
      subst hz
      by_cases hi : i < X.N.length
      · rw [List.getElem?_append_left hi] at e1
        exact absurd (List.mem_of_getElem? e1) hyN
      · rw [List.getElem?_append_right (by omega)] at e2
        have : i - σ.length = 0 := by
          have h2 := (List.getElem?_eq_some_iff.mp e1).1
          simp at h2
          omega
        rw [this] at e2
        cases e2
        exact ⟨u, ru, .inl ⟨k, by simp [List.lookup]⟩⟩
    · exact absurd rfl (L.own _ (PySem.mem_of_lookup k)).1
    · have hzy : z ≠ y := fun e => by
        rw [e, L.par] at k
        cases k
      have hi : i < X.N.length := by
        have h2 := (List.getElem?_eq_some_iff.mp e1).1
        simp at h2
        by_cases hi : i = X.N.length
        · subst hi
          rw [List.getElem?_append_right (Nat.le_refl _)] at e1
          simp at e1
          exact absurd e1.symm hzy
        · omega
      rw [List.getElem?_append_left hi] at e1
      rw [List.getElem?_append_left (by omega)] at e2
      obtain ⟨m, hn, hl⟩ := I.loc
      have hvis : Vis X.env.scope z := (L.free _ (PySem.mem_of_lookup k) rfl).elim (fun k => .inr (.inl k)) (fun k => .inr (.inr k))
      obtain ⟨w', r, q⟩ := hl i z w e1 e2 hvis
      obtain ⟨c2, h2⟩ := look k
      refine ⟨w', r, .inr ⟨.inr k, c2, h2, ?_⟩⟩
      have c1 := cm h2
      rcases q with ⟨k', _⟩ | ⟨_, c3, e', z2⟩
      · have k' : X.env.scope.names.lookup z = some .local := k'
        rcases L.free _ (PySem.mem_of_lookup k) rfl with k2 | k2 <;> rw [show X.env.scope.names.lookup z = _ from k2] at k' <;> cases k'
      · rw [c1] at e'
        cases e'
        exact cellK (I.freeC z _ c1) z2
  · obtain ⟨w', z⟩ := I.cell y c (cm e)
    exact ⟨w', cellK (I.freeC y c (cm e)) z⟩
  · obtain ⟨v, o, ho, hd⟩ := I.cell y c (cm e)
    exact un.free c o ho (I.freeC y c (cm e)) (by simp)
end
/-- what a lambda may keep of its maker's names -/
def flat1 : Option SV → Option SV
  | some (.d d) => if flatD d then some (.d d) else none
  | _ => none
def flatS (σ : Sg) : Sg := σ.map flat1
theorem flat_any {K : PySem.W.Frag} {f f' : Ow} {H H' : Hp} {v : V} {d : PyData} (h : Is K f H v d) (e : flatD d = true) : Is K f' H' v d := by
  cases h with
  | non => exact .non
  | bl b => exact .bl b
  | int i => exact .int i
  | str x => exact .str x
  | lst _ _ => simp [flatD] at e
  | tup _ _ => simp [flatD] at e
  | dic _ _ _ => simp [flatD] at e
theorem EnvR.flat {K : PySem.W.Frag} {f f' : Ow} {H H' : Hp} {σV : L2.St} {σ : Sg} (h : EnvR K f H σV σ) : EnvR K f' H' σV (flatS σ) :=
  ⟨by rw [flatS, List.length_map]; exact h.len, fun i x e => by
    unfold flatS at e
    rw [List.getElem?_map] at e
    cases e0 : σ[i]? with
    | none => rw [e0] at e; cases e
    | some o =>
      rw [e0] at e
      cases o with
      | none => cases e
      | some sv =>
        cases sv with
        | d d =>
          have e : some (if flatD d = true then some (SV.d d) else none) = some (some x) := e
          by_cases hf : flatD d = true
          · rw [if_pos hf] at e
            cases e
            obtain ⟨v, h1, h2⟩ := h.get i _ e0
            exact ⟨v, h1, flat_any h2 hf⟩
          · rw [if_neg hf] at e
            cases e
        | r j => cases e
        | s ns => cases e
        | k a x c d => cases e
        | t a b c d e' => cases e⟩
theorem EnvR.snoc {K : PySem.W.Frag} {f : Ow} {H : Hp} {σV : L2.St} {σ : Sg} {v : V} {sv : SV} (h : EnvR K f H σV σ) (r : SvR K f H v sv) : EnvR K f H (σV ++ [some v]) (σ ++ [some sv]) :=
  ⟨by have := h.len; simp [this], fun i x e => by
    have hl := h.len
    by_cases hi : i < σ.length
    · rw [List.getElem?_append_left hi] at e
      obtain ⟨w, h1, h2⟩ := h.get i x e
      exact ⟨w, by rw [List.getElem?_append_left (by omega)]; exact h1, h2⟩
    · rw [List.getElem?_append_right (by omega)] at e
      have : i - σ.length = 0 := by
        have h2 := (List.getElem?_eq_some_iff.mp e).1
        simp at h2
        omega
      rw [this] at e
      cases e
      exact ⟨v, by rw [List.getElem?_append_right (by omega), show i - σV.length = 0 by omega]; rfl, r⟩⟩
/-- the lambda's meaning where its maker's names stand as in σ -/
def inEnv (σ : Sg) (ee : Ex) : Ex := fun τ S => ee (flatS σ ++ τ) S
section
variable {X : Cx} {pins : List (Addr × Obj)} {σ : L2.St} {H : Hp} {s : Shared}
theorem de_predC {CXg : CXT} {Eg : XK} {Ng : List Str} {qg : Str} {sg : Scope} {g f c2 : Addr} {cdg pm ctv : Value} {params : Arguments} {body : Expr} {scope : Scope} {k i : Nat} {nm y : Str} {W : WX} {ee : Ex} {b : Expr} {es : List Expr} {fs : Exs} {p1 p2 : Pos} {σS : Sg} {fo0 : Ow} {H0 : Hp}
    (I : Inv X pins σ H s) (hE0 : EnvR X.K fo0 H0 σ σS) (L : LamC X.env.scope scope y) (hyN : y ∉ X.N) (hf : s.heap.get? f = some (lamOb X params body scope pm c2 ctv)) (hfn : H f = none) (hfr : f ∉ frs X.stack)
    (hbind : ∀ u, bindArgs (PySem.W.kla_fn "<lambda>" (lamNm X) params body scope (cloFrom X.env.cells scope.names []) pm (.ref c2) ctv) ⟨[u], []⟩ = pure [(y, u)])
    (tk : Takes (cxOf CXg X.prog X.w X.K X.mg X.base Ng qg sg g cdg X.A X.stack s H Eg).nox W) (hr : Room (k + 1) (X.A.deeper (envOfC qg sg s.heap.objs.size g cdg))) (hgd : X.A.guards = some []) (hnd : X.N.Nodup)
    (hbody : ∀ (A : Around) (outer : List Env) (s : Shared) (H : Hp), Gd (lamPCx X A outer s H F0 scope f c2 y) (WE F0) k → DE (lamPCx X A outer s H F0 scope f c2 y) (WE F0) body ee)
    (hN : Ng[i]? = some nm) (hv : Vis sg nm) (hd : (nm == ("__debug__" : Str)) = false) (hcd : (nm == ("__classdict__" : Str)) = false)
    (ha : DA (cxOf CXg X.prog X.w X.K X.mg X.base Ng qg sg g cdg X.A X.stack s H Eg).nox W (b :: es) fs)
    (hst : starEach (b :: es) (envOfC qg sg s.heap.objs.size g cdg) = (false, eval b (envOfC qg sg s.heap.objs.size g cdg)) :: starEach es (envOfC qg sg s.heap.objs.size g cdg)) (hpl : (backTo p2 (starEach es (envOfC qg sg s.heap.objs.size g cdg))).any (·.1) = false) :
    DE (cxOf CXg X.prog X.w X.K X.mg X.base Ng qg sg g cdg X.A X.stack s H Eg).nox W (.Call (.Name nm p1) (b :: es) [] p2) (ePr f c2 (lamNm X) i (inEnv σS ee) fs) := by
  refine ⟨fun pinsZ sZ σZ HZ Q IZ ⟨fo, τ, S, r, hE, hS, hr2, hq⟩ => ?_⟩
  unfold ePr at hr2
  split at hr2
  case isFalse => cases hr2
  rename_i h0
  obtain ⟨v, ev, rv, rc, nc, rt⟩ := hE.get i _ h0
  subst rv
  have first := (pe_var (pos := p1) (i := i) hN hv hd hcd).run pinsZ sZ σZ HZ (fun v H1 => v = .ref f ∧ H1 = HZ) IZ ⟨.ref f, ev, rfl, rfl⟩
  refine wpAny_Call_Name_kw (thn first fun u s1 ⟨v, H1, I1, r1, ev, eH⟩ => ?_)
  subst ev eH
  obtain rfl : u = Value.ref f := r1
  have of1 : s1.heap.get? f = some (lamOb X params body scope pm c2 ctv) := I1.base.keep f _ hf hfn hfr (fun z => nomatch (show f ∈ ([] : List Addr) from z))
  have hA : TXs (cxOf CXg X.prog X.w X.K X.mg X.base Ng qg sg g cdg X.A X.stack s H Eg).nox W fs σZ H1 (fun vs H2 => ∃ (S1 : Sto) (v0 : SV) (S2 : Sto) (u : PyData), StoR X.K fo S1 H2 ∧ Kp fo H1 H2 ∧ Paired (SvR X.K fo H2) vs [v0] ∧ ee (flatS σS ++ [some v0]) S1 = some (.ok (.d u) S2) ∧ (∀ w H3, StoR X.K fo S2 H3 → Kp fo H1 H3 → SvR X.K fo H3 w (.d u) → Q w H3)) := by
    refine TXs.first hE hS hr2 (exc_way hq) fun xs S1 vs H2 _ h1 sS kk _ pr => ?_
    split at h1
    case h_2 => cases h1
    rename_i v0 _
    unfold pOf at h1
    split at h1
    case h_2 => cases h1
    rename_i u S2 he
    cases h1
    exact ⟨S1, v0, S2, u, sS, kk, pr, he, hq⟩
  refine PySem.W.callWith_F (env := envOfC qg sg s.heap.objs.size g cdg) ⟨_, _, _, _, of1⟩ (thn (ha.run p2 pinsZ s1 σZ H1 _ I1 hA) fun us s2 ⟨vs, H2, I2, rvs, S1, v0, S2, u, sS, kk, pr, he, hQ⟩ => ?_) hst hpl
  have of2 : s2.heap.get? f = some (lamOb X params body scope pm c2 ctv) := I2.base.keep f _ hf hfn hfr (fun z => nomatch (show f ∈ ([] : List Addr) from z))
  refine ⟨⟨_, _, _, _, of2⟩, ?_⟩
  have un : Un (frs X.stack) [] H H2 s.heap s2.heap := I2.base
  have rc2 : H2 c2 = some (CodeO c2 (lamNm X)) := kk c2 _ nc.1 rc
  obtain ⟨⟨oc, vs1, t1, hoc, hdc, hvc⟩, _, _⟩ := I2.hok c2 _ rc2
  have hl : vs.length = 1 := Paired.length pr
  have hul : us.length = 1 := rvs.length.symm.trans hl
  have inner : codeAny (model X.prog X.w) (X.A.deeper (envOfC qg sg s.heap.objs.size g cdg)) (.call (.ref f) ⟨us, []⟩) (CR (L2.CX X.prog X.w) (envOfC qg sg s.heap.objs.size g cdg :: X.stack) X.prog X.w H2 s2 Q F0) s2 := by
    refine PySem.W.kla_callFunE hr.depth of2 rfl L.co L.gen rfl ⟨c2, oc, vs1, t1, rfl, hoc, hdc, hvc⟩ ?_
    obtain ⟨vA, rfl⟩ := List.length_eq_one_iff.mp hl
    obtain ⟨u0, rfl⟩ := List.length_eq_one_iff.mp hul
    rw [hbind]
    have ru : RelV vA u0 := by cases rvs; assumption
    have rp : SvR X.K fo H2 vA v0 := by cases pr; assumption
    refine wpAny_pure (wpAny_newFunctionEnv (fun z hz => (L.own z hz).1) (fun z hz => by cases List.mem_singleton.mp hz; exact L.par) (fun h1 hns hsb => ⟨I2.nolimit.fresh _ hsb, ?_⟩) L.kind)
    show codeAny _ _ (.expr body (lamEnv X scope s2.heap.objs.size f c2)) _ _
    have kp : ∀ b o, s2.heap.get? b = some o → h1.get? b = some o := fun b o e => hsb.extBut b o (Nat.ne_of_lt (Heap.lt_size e)) (Heap.get?_push_of_some _ e)
    have J := lamP_start (E := F0) (f := f) (c' := c2) (tk := s2.toks + ([(y, u0)] : List (Str × Value)).length) I L I2.env0 hr.hd ru hyN un hns kp
    have G : Gd (lamPCx X (X.A.deeper (envOfC qg sg s.heap.objs.size g cdg)) (envOfC qg sg s.heap.objs.size g cdg :: X.stack) s2 H2 F0 scope f c2 y) (WE F0) k := ⟨hr.deeper _, hgd, rfl, List.nodup_append.mpr ⟨hnd, by simp, fun a ha b hb e => by cases List.mem_singleton.mp hb; exact hyN (e ▸ ha)⟩, takes_of rfl rfl rfl rfl, passes_of rfl⟩
    have hEnv : EnvR X.K fo H2 (σ ++ [some vA]) (flatS σS ++ [some v0]) := EnvR.snoc hE0.flat rp
    refine PySem.W.kla_codeExpr (wpAny_mono ((hbody _ _ s2 H2 G).run [] _ _ H2 Q J ⟨fo, _, S1, _, hEnv, sS, he, fun w H3 s3 k3 r3 => hQ w H3 s3 (kk.trans k3) r3⟩) (fun v s4 ⟨w2, H3, J2, rv, q⟩ => ⟨w2, H3, J2.os, J2.bare, J2.base, J2.hok, rv, q⟩) fun e s' hq => hq)
  refine wpAny_call (codeAny_mono inner fun r s' hq => ?_)
  cases r with
  | error e => exact tk e s' (XE.of_call I2 (fun _ _ _ z => z.elim) hq)
  | ok fl =>
    cases fl with
    | ret u => exact I2.after hq
    | next => exact hq.elim
    | brk => exact hq.elim
    | cont => exact hq.elim
end
open Classical in
@[simp] noncomputable def eHandC (i : Nat) (q : Str) (P : Addr) (gth : Ex → SV → Sto → Option FR) (ee ea : Ex) (σ : Sg) (S : Sto) : Option (Res SV) := Res.bnd (ea σ S) fun v0 S0 => match S0[i]? with
  | some (.tab q2 P2) => if q2 = q ∧ P2 = P then match gth (inEnv σ ee) v0 S0 with
      | some (.ok v S2) => some (.ok v S2)
      | _ => none
    else none
  | _ => none
theorem de_handedC {X : Cx} {W : WX} {k i : Nat} {c P : Addr} {x z y : Str} {gth : Ex → SV → Sto → Option FR} {params : Arguments} {body : Expr} {scope : Scope} {ee ea : Ex} {p pz lpos pos : Pos} (G : Gd X W (k + 2)) (F : FnP X.prog X.w X.K X.mg X.base (k + 1) x gth) (TB : TabB X.base X.mg c P) (hcode : X.env.code = .ref c)
    (L : LamC X.env.scope scope y) (hyN : y ∉ X.N) (hdef : defaultsOf params X.env = ([], [])) (hbind : ∀ (q : Str) (cl : List (Str × Addr)) (pm cv ctv u : Value), bindArgs (PySem.W.kla_fn "<lambda>" q params body scope cl pm cv ctv) ⟨[u], []⟩ = pure [(y, u)])
    (hz : DE X W (.Name z pz) ea)
    (hbody : ∀ (A : Around) (outer : List Env) (s : Shared) (H : Hp) (f c2 : Addr), Gd (lamPCx X A outer s H F0 scope f c2 y) (WE F0) k → DE (lamPCx X A outer s H F0 scope f c2 y) (WE F0) body ee)
    (hg : Gl X x := by rfl) (hdb : (x == ("__debug__" : Str)) = false := by decide) : DE X W (.Call (.Name x p) [.Name z pz, .Lambda params body scope lpos] [] pos) (eHandC i (lamNm X) P gth ee ea) := by
  refine ⟨fun pins s σV H Q I ⟨fo, σ, S, r, hE, hS, hr, hq⟩ => ?_⟩
  unfold eHandC at hr
  have hA : TX X W ea σV H (fun v H0 => ∃ (sv0 : SV) (S0 : Sto) (r0 : SV) (S2 : Sto), StoR X.K fo S0 H0 ∧ Kp fo H H0 ∧ SvR X.K fo H0 v sv0 ∧ S0[i]? = some (.tab (lamNm X) P) ∧ gth (inEnv σ ee) sv0 S0 = some (.ok r0 S2) ∧ (∀ w H3, StoR X.K fo S2 H3 → Kp fo H H3 → SvR X.K fo H3 w r0 → Q w H3)) := by
    refine TX.first hE hS hr (exc_way hq) fun sv0 S0 v H0 _ h1 s0 k0 _ r0 => ?_
    split at h1
    case h_2 => cases h1
    rename_i q2 P2 ht
    split at h1
    case isFalse => cases h1
    rename_i hh
    obtain ⟨rfl, rfl⟩ := hh
    split at h1
    case h_2 => cases h1
    rename_i v2 S2 eg
    cases h1
    exact ⟨sv0, S0, v2, S2, s0, k0, r0, ht, eg, hq⟩
  refine wpAny_Call_Name_kw (ld_glob I hg F.mgx ?_ hdb)
  refine PySem.W.callWith_K (h₀ := X.base) I.ok.mod.kin F.kp ?_ (by rfl) (by rfl)
  show wpAny _ _ (spliced ((false, eval (.Name z pz) X.env) :: (false, eval (.Lambda params body scope lpos) X.env) :: backTo pos (starEach [] X.env))) _ _ s
  refine Calls.spliced_cons (thn (hz.run pins s σV H _ I hA) fun u0 s0 ⟨v0, H0, I0, rv0, sv0, S0, r0, S2, s0', k0, rs0, ht, eg, hQ⟩ => ?_)
  refine Calls.spliced_cons (lam_made I0 TB hcode s0' ht hdef (L.has I0.ok) fun f c2 pm2 ctv H1 s1 I1 S1 k1 hf hfn hfr hco nc => ?_)
  refine Calls.spliced_nil ⟨I1.kIn, ?_⟩
  have rc : codeAny (model X.prog X.w) X.A (.call (.ref F.g) ⟨[u0, .ref f], []⟩) (CR C8.CX0 X.stack X.prog X.w H1 s1 Q C8.E0) s1 := by
    refine run_ofS (N := F.Ng) (ps := [F.a0, F.a]) (us := [u0, .ref f]) (vs := [v0, .ref f]) F.lk F.cd F.sc G.hr I1.env0 (F.hb s1 [u0, .ref f] I1.kIn rfl) (.cons rv0 (.cons rfl .nil)) rfl fun hr2 => ?_
    obtain ⟨t2, h1, h2⟩ := F.run X.A X.stack f c2 (lamNm X) s1 H1 Q (inEnv σ ee) fo S0 v0 sv0 (.ok r0 S2) hr2 G.gd
      (fun b es fs p1 p2 hab hst hpl => de_predC I1 hE L hyN hf hfn hfr (fun u => hbind _ _ _ _ _ u) L2.takes0 hr2 G.gd G.nd (fun A outer s H g => hbody A outer s H f c2 g) F.h0 F.hv F.d1 F.d2 hab hst hpl) hco nc S1 (rs0.kp k1) eg
      (fun u H2 s2 k2 r2 => hQ u H2 s2 (k0.trans (k1.trans k2)) r2)
    exact ⟨t2, h1.nox, h2⟩
  refine wpAny_call (codeAny_mono rc fun r s2 hq => ?_)
  cases r with
  | error e => exact (show False from hq).elim
  | ok fl =>
    cases fl with
    | ret u => exact I1.after hq
    | next => exact False.elim hq
    | brk => exact False.elim hq
    | cont => exact False.elim hq
/-! ## x.bit_length() -/
section
variable {X : Cx} {W : WX} {e : Expr} {ee : Ex} {pos p0 : Pos}
@[simp] def pBits (x : SV) (_ : Sto) : Option SV := match x with
  | .d (.int i) => some (.d (.int (Builtin.Int.intBits i : Nat)))
  | _ => none
theorem de_bits (he : DE X W e ee) (hbase : attributeBase e "bit_length" X.env (eval e X.env) = eval e X.env := by rfl) (hline : (p0.endLine == pos.line) = true := by rfl) : DE X W (.Call (.Attribute e "bit_length" p0) [] [] pos) (eUn pBits ee) :=
  pe_imp (pe_bits he hbase hline) fun σV H Q ⟨f, σ, S, r, hE, hS, hr, hq⟩ => by
    refine TX.first hE hS hr (exc_way hq) fun x S1 vx H1 _ h1 s1 k1 e1 r1 => ?_
    cases hp : pBits x S1 with
    | none => rw [hp] at h1; cases h1
    | some z =>
      rw [hp] at h1
      cases h1
      unfold pBits at hp
      split at hp
      · cases hp
        cases r1
        exact ⟨_, rfl, hq _ H1 s1 k1 (Is.int _)⟩
      · cases hp
theorem all_rg {K : PySem.W.Frag} {f : Ow} {H : Hp} : ∀ (l : List Nat) (a : Int), IsAll K f H (l.map fun (i : Nat) => V.int (a + (i : Int))) (l.map fun (i : Nat) => PyData.int (a + (i : Int)))
  | [], _ => .nil
  | _ :: l, a => .cons (.int _) (all_rg l a)
/-- list(range(n)) -/
@[simp] def pLRg (x : SV) (_ : Sto) : Option SV := match x with
  | .d (.int n) => if 0 ≤ n ∧ n.toNat ≤ sizeLine then some (.d (.list (upTo 0 n.toNat))) else none
  | _ => none
theorem de_listRg {q0 q1 : Pos} (hc : X.calm = true) (hm : X.mg "list" = none) (hm2 : X.mg "range" = none) (he : DE X W e ee) (hg : Gl X "list" := by rfl) (hg2 : Gl X "range" := by rfl) (na : starEach [e] X.env = (false, eval e X.env) :: starEach [] X.env := by rfl)
    (na2 : starEach [.Call (.Name "range" q0) [e] [] q1] X.env = (false, eval (.Call (.Name "range" q0) [e] [] q1) X.env) :: starEach [] X.env := by rfl) : DE X W (.Call (.Name "list" p0) [.Call (.Name "range" q0) [e] [] q1] [] pos) (eUn pLRg ee) :=
  pe_imp (pe_listRg hc hg hm (prg_1 hg2 hm2 he na) na2) fun σV H Q ⟨f, σ, S, r, hE, hS, hr, hq⟩ => by
    refine TX.first hE hS hr (exc_way hq) fun x S1 vx H1 _ h1 s1 k1 e1 r1 => ?_
    cases hp : pLRg x S1 with
    | none => rw [hp] at h1; cases h1
    | some z =>
      rw [hp] at h1
      cases h1
      unfold pLRg at hp
      split at hp
      · split at hp
        · rename_i n _ hn
          cases hp
          cases r1
          rw [sizeLine_eq] at hn
          have hn2 : n ≤ 16777216 := by omega
          refine ⟨n, rfl, RgOk.of_le (by omega) hn2 (by omega) hn.1, fun q nq => hq _ _ (s1.laid nq) (k1.trans (Kp.new nq)) (Is.lst ⟨upd_same, s1.free nq⟩ ?_)⟩
          · unfold rgV upTo
            rw [Int.sub_zero]
            exact all_rg (List.range n.toNat) 0
        · cases hp
      · cases hp
end
end Z
set_option maxRecDepth 100000
set_option maxHeartbeats 2000000
namespace Z
open PySem PySem.Spec PyProof.Rows L2

/-! ## f-strings of texts and ints -/
@[simp] def pFmt (x : SV) (_ : Sto) : Option SV := match x with
  | .d (.str y) => if y.length ≤ sizeLine then some (.d (.str y)) else none
  | .d (.int i) => if i.natAbs.log2 < 1920 then some (.d (.str (Str.ofString (toString i)))) else none
  | _ => none
def jGo : List Ex → Str → Sg → Sto → Option (Res SV)
  | [], acc, _, S => some (.ok (.d (.str acc)) S)
  | e :: es, acc, σ, S => Res.bnd (e σ S) fun v S1 => match v with
    | .d (.str y) => if (acc ++ y).length ≤ sizeLine then jGo es (acc ++ y) σ S1 else none
    | _ => none
@[simp] def eJoin (es : List Ex) (σ : Sg) (S : Sto) : Option (Res SV) := jGo es Str.empty σ S
section
variable {X : Cx} {W : WX} {e v1 v2 : Expr} {rest : List Expr} {ee : Ex} {pos : Pos}
theorem de_fmt (he : DE X W e ee) : DE X W (.FormattedValue e (-1) none pos) (eUn pFmt ee) :=
  pe_imp (pe_fmt he) fun σV H Q ⟨f, σ, S, r, hE, hS, hr, hq⟩ => by
    refine TX.first hE hS hr (exc_way hq) fun x S1 vx H1 _ h1 s1 k1 e1 r1 => ?_
    cases hp : pFmt x S1 with
    | none => rw [hp] at h1; cases h1
    | some z =>
      rw [hp] at h1
      cases h1
      unfold pFmt at hp
      split at hp
      · split at hp
        · rename_i y _ hz
          cases hp
          cases r1
          exact .inl ⟨_, rfl, hz, hq _ H1 s1 k1 (Is.str _)⟩
        · cases hp
      · split at hp
        · rename_i i _ hz
          cases hp
          cases r1
          exact .inr ⟨_, rfl, hz, hq _ H1 s1 k1 (Is.str _)⟩
        · cases hp
      · cases hp
inductive DJ (X : Cx) (W : WX) : List Expr → List Ex → Prop where
  | nil : DJ X W [] []
  | cons {e : Expr} {m : Ex} {es : List Expr} {ms : List Ex} (h : DE X W e m) (r : DJ X W es ms) : DJ X W (e :: es) (m :: ms)
theorem DJ.pj {es : List Expr} {ms : List Ex} (h : DJ X W es ms) : PJ X es (ms.map (TX X W)) := by
  induction h with
  | nil => exact .nil
  | cons h _ ih => exact .cons h ih
theorem js_go {f : Ow} {σ : Sg} {σV : L2.St} {Q : VK} : ∀ {ms : List Ex} {acc : Str} {S : Sto} {H : Hp} {r : Res SV}, EnvR X.K f H σV σ → StoR X.K f S H → jGo ms acc σ S = some r →
    (match r with
      | .ok sv S' => ∀ (v : V) (H' : Hp), StoR X.K f S' H' → Kp f H H' → SvR X.K f H' v sv → Q v H'
      | .exc x S' => XS X W f σV H x S') → tJs (ms.map (TX X W)) acc σV H fun out H1 => Q (.str out) H1
  | [], acc, S, H, r, hE, hS, hr, hq => by
    cases hr
    exact hq _ H hS (Kp.refl _ _) (Is.str _)
  | e :: ms, acc, S, H, r, hE, hS, hr, hq => by
    unfold jGo at hr
    refine TX.first hE hS hr (exc_way hq) fun v S1 vx H1 _ h1 s1 k1 e1 r1 => ?_
    split at h1
    case h_2 => cases h1
    rename_i y _
    split at h1
    case isFalse => cases h1
    rename_i hz
    cases r1
    refine ⟨y, rfl, hz, js_go e1 s1 h1 ?_⟩
    cases r with
    | ok sv S' => exact fun v H' s2 k2 r2 => hq v H' s2 (k1.trans k2) r2
    | exc x S' => exact XS.kp hq k1
theorem de_join {ms : List Ex} (h : DJ X W (v1 :: v2 :: rest) ms) : DE X W (.JoinedStr (v1 :: v2 :: rest) pos) (eJoin ms) :=
  pe_imp (pe_joined h.pj) fun σV H Q ⟨f, σ, S, r, hE, hS, hr, hq⟩ => js_go hE hS hr hq
end
end Z
set_option maxRecDepth 100000
set_option maxHeartbeats 2000000
namespace Z
open PySem PySem.Spec PyProof.Rows L2

/-! ## enumerate of a tuple -/
theorem meets_enum1 {v : Value} {o : Obj} {H : Heap → Prop} (B : Begins v o H) :
    Meets (Builtin.«enumerate.__new__» ⟨[.type "enumerate", v], []⟩) (fun _ R s => H s.heap ∧
      R (.ok (.ret (.ref (s.heap.push o).objs.size))) { s with heap := (s.heap.push o).push { cls := .type "enumerate", data := .fields #[.none, .bool false, .ref s.heap.objs.size, rawInt 0, .none, .none] } }) :=
  .of_wp fun prog w A R s h => by
    obtain ⟨hp, g, d, tk, os⟩ := s; obtain ⟨h1, h⟩ := h
    have hsub := sub_enumerate
    have q1 : ∀ {A' : Around} {E : Value → Shared → Prop} {Q : Value → Shared → Prop}, Q (.ref hp.objs.size) ⟨hp.push o, g, d, tk, os⟩ → wpAny (model prog w) A' (pyIter v) Q E ⟨hp, g, d, tk, os⟩ :=
      fun q => B.iter prog w _ _ ⟨hp, g, d, tk, os⟩ _ h1 q
    wp_walk using q1
    refine wpAny_stack_any fun st => wpAny_pure ?_
    split
    · rename_i c _ _ _ _ _
      cases (c == Value.type "enumerate")
      · wp_walk using q1
        exact ⟨_, rfl, h⟩
      · wp_walk using q1
        exact ⟨_, rfl, h⟩
    · wp_walk using q1
      exact ⟨_, rfl, h⟩
section
variable {prog : Program} {w : World} {A : Around} {E : Value → Shared → Prop} {s : Shared}
theorem call_enum1 {v : Value} {o : Obj} {H : Heap → Prop} {Q : Value → Shared → Prop} (B : Begins v o H) (h1 : H s.heap)
    (h : ∀ h', IsEnum h' (s.heap.objs.size + 1) s.heap.objs.size 0 .none → h'.get? s.heap.objs.size = some o → h'.objs.size = s.heap.objs.size + 2 →
      (∀ b o, s.heap.get? b = some o → h'.get? b = some o) → Q (.ref (s.heap.objs.size + 1)) { s with heap := h' }) :
    wpAny (model prog w) A (call (.type "enumerate") [v]) Q E s := by
  refine callType_new F.called_enumerate (by decide) (F.typeCall_enumerate_1 _) (F.newCall_enumerate_1 _) (fun obj => F.args_object_init_2 obj _) F.entry_enumerate_new
    (meets_enum1 B) ⟨h1, ?_⟩
  have hz : (s.heap.push o).objs.size = s.heap.objs.size + 1 := Heap.size_push ..
  show _ ∧ _
  rw [hz]
  have he : IsEnum ((s.heap.push o).push { cls := .type "enumerate", data := .fields #[.none, .bool false, .ref s.heap.objs.size, rawInt 0, .none, .none] }) (s.heap.objs.size + 1) s.heap.objs.size 0 .none := by
    have := Heap.get?_push_size (s.heap.push o) (o := { cls := .type "enumerate", data := .fields #[.none, .bool false, .ref s.heap.objs.size, rawInt 0, .none, .none] }) rfl
    rw [hz] at this; exact this
  refine ⟨⟨_, he, rfl⟩, h _ he (Heap.get?_push_of_some _ (Heap.get?_push_size _ B.free)) (by rw [Heap.size_push, hz]) fun b o x => Heap.get?_push_of_some _ (Heap.get?_push_of_some _ x)⟩
end
theorem enum_endT {prog : Program} {w : World} {A : Around} {E : Value → Shared → Prop} {s : Shared} {e it t : Addr} {i : Nat} {k : Int} {old : Value} {items : Array Value} {Q : Option Value → Shared → Prop}
    (hh : A.handled = none) (he : IsEnum s.heap e it k old) (hit : s.heap.IsTupleIter it t i) (ht : s.heap.IsTuple t items) (hx : items[i]? = none)
    (hQ : ∀ h', Heap.ExtBut it s.heap h' → Q none { s with heap := h' }) : wpAny (model prog w) A (pyNext (.ref e)) Q E s := by
  have hT : s.TypeIs (.ref e) "enumerate" := ⟨_, he, rfl⟩
  unfold pyNext
  refine wpAny_bind (wpAny_attempt (wpAny_callSpecial?_slot (name := Str.ofString "__next__") hT F.slot_enumerate_next
    (wpAny_call_entry F.slot_enumerate_next hT F.entry_enumerate_next ?_ (F.args_enumerate_next_1 _))))
  show wpAny _ _ (field (.ref e) 2 >>= _) _ _ _
  refine wpAny_bind (wpAny_field he rfl (x := .ref it) rfl ?_)
  refine wpAny_bind (wpAny_nextOf_tuple_end (A := A.in1) hh hit ht hx fun h' x he' hx' => ?_)
  obtain ⟨o, ho, hc⟩ := hx'
  refine wpAny_bind (wpAny_isInstance (T := "StopIteration") (b := true) ⟨o, ho, hc⟩ isSubtype_stop ?_)
  exact wpAny_pure (hQ _ he')
/-- the tuple at a, each item in a new pair -/
def IteT (K : PySem.W.Frag) (a : Addr) : It :=
  ⟨fun i H => ∃ (xs : List V) (x : V), SqT K H a xs ∧ xs[i]? = some x, fun i H v H' => ∃ T x, v = .ref T ∧ H T = none ∧ H' = upd H T (.tup [.int (i : Nat), x]) ∧ ∀ xs, SqT K H a xs → xs[i]? = some x, fun i H => ∃ xs : List V, SqT K H a xs ∧ xs.length ≤ i⟩
theorem turn_enumT {P : Program} {w : World} {K : PySem.W.Frag} {elts : List Expr} {kk : Nat} {tpos : Pos} (a e it : Addr) :
    Turn P w K (.Tuple elts kk tpos) (IteT K a) [e, it] e (fun i h => (∃ old, IsEnum h e it ((i : Nat) : Int) old) ∧ h.IsTupleIter it a i ∧ e ≠ it ∧ a ≠ it ∧ e ≠ a) where
  mem := by simp
  obj := fun i h st b hb => by
    obtain ⟨⟨old, he⟩, ⟨o, ho, hc, hd⟩, _⟩ := st
    have e' : b = e ∨ b = it := by simpa using hb
    rcases e' with z | z
    · rw [z]; exact ⟨_, he, fun v q => nomatch q⟩
    · rw [z]; exact ⟨o, ho, fun v q => by rw [hd] at q; cases q⟩
  keep := fun i h h' st k => let ⟨⟨old, he⟩, hi, hne⟩ := st; ⟨⟨old, k e (by simp) _ he⟩, hi.at fun o q => k it (by simp) o q, hne⟩
  item := by
    intro X hP hw hK hc i pins s σ H E I hf st hg
    subst hP hw hK
    obtain ⟨⟨old, he⟩, hit, hne, hat, hea⟩ := st
    obtain ⟨xs, x, hq, hx⟩ := hg
    obtain ⟨its, rv, p, hz⟩ := I.tuple hq
    obtain ⟨u, hu, ru⟩ := rv.get hx
    have hel : e < s.heap.objs.size := Heap.lt_size he
    have hil : it < s.heap.objs.size := by obtain ⟨_, q, _⟩ := hit; exact Heap.lt_size q
    have hlt : i < its.toArray.size := by
      have := (List.getElem?_eq_some_iff.mp hu).1
      simpa using this
    refine wpAny_pyNext_enum_itemD (Draws.tuple (prog := X.prog) (w := X.w) (A := X.A.in1) (I.ok.hd hc) it a hat its.toArray) he ⟨hit, p⟩ hlt hne (by simp [hne, hea]) fun x' h' tk hP ho hst' hT hsz hk => ?_
    have ex : x' = u := by
      have hP : its.toArray[i]? = some x' := hP
      have : its[i]? = some x' := by simpa using hP
      rw [hu] at this
      exact (Option.some.inj this).symm
    subst ex
    refine ⟨_, rfl, wpAny_letOwnedTupleGo_enum (s := { s with heap := h', toks := tk + 1 }) ho fun h'' he' sb => ?_⟩
    have hT2 : h''.get? s.heap.objs.size = some { cls := .type "tuple", data := .seq #[.int i tk, x'] } := (sb.2 _ (Nat.ne_of_gt hel)).trans hT
    have new : ObjOk X.prog X.w (upd H s.heap.objs.size (.tup [.int (i : Nat), x])) h'' s.heap.objs.size (.tup [.int (i : Nat), x]) :=
      ⟨by show 2 ≤ sizeLine; decide, [.int i tk, x'], .cons ⟨_, rfl⟩ (.cons ru .nil), ⟨_, hT2, rfl, _, rfl⟩⟩
    have I1 : Inv X pins σ (upd H s.heap.objs.size (.tup [.int (i : Nat), x])) { s with heap := h'', toks := tk + 1 } :=
      I.turnedNew (ch := [e, it]) (fun b ob hb q => (sb.2 b (fun z => hb (by simp [z]))).trans (hk b ob (fun z => hb (by simp [z])) (fun z => hb (by simp [z])) q)) hf (Nat.le_refl _) new
    refine ⟨.ref s.heap.objs.size, _, I1, rfl, ⟨_, x, rfl, I.hok.fresh (Nat.le_refl _), rfl, fun ys hy => by rw [I.tuple_inj hy hq]; exact hx⟩, ⟨⟨x', ?_⟩, hst'.1.at fun o q => (sb.2 it (Ne.symm hne)).trans q, hne, hat, hea⟩, fun b hb => ?_⟩
    · have e1 : ((i + 1 : Nat) : Int) = (i : Int) + 1 := by omega
      rw [e1]; exact he'
    · have hb' : b < s.heap.objs.size := by
        have e' : b = e ∨ b = it := by simpa using hb
        rcases e' with z | z
        · rw [z]; exact hel
        · rw [z]; exact hil
      rw [upd_ne (Nat.ne_of_lt hb')]
      exact (hf b hb).1
  done := by
    intro X hP hw hK hc i pins s σ H E I hf st hg
    subst hP hw hK
    obtain ⟨⟨old, he⟩, hit, hne, hat, hea⟩ := st
    obtain ⟨xs, hq, hx⟩ := hg
    obtain ⟨its, rv, p, hz⟩ := I.tuple hq
    obtain ⟨f0, f1, f2, f3, f4, f5⟩ := hf it (by simp)
    have hl := rv.length
    exact enum_endT (I.ok.hd hc) he hit p (by simp; omega) fun h' eb => ⟨rfl, I.turned (t' := s.toks) (fun b o hb q => eb b o hb q) f0 f1 f3 f4 f5⟩
  self := fun A i s Q E st h => let ⟨⟨_, he⟩, _⟩ := st; wpAny_pyIter_enum he h
/-! ## enumerate of a list or a tuple -/
def iEnumA (K : PySem.W.Frag) (ta : TA) : TI := fun σ H R => ta σ H fun vs H1 => ∃ a xs, vs = [.ref a] ∧ ((SqL K H1 a xs ∧ R (Ite K a) H1) ∨ (SqT K H1 a xs ∧ R (IteT K a) H1))
theorem pi_enumA {X : Cx} {e : Expr} {ta : TA} {p pos tpos : Pos} {elts : List Expr} {kk : Nat} (hg : Gl X "enumerate") (hm : X.mg "enumerate" = none) (ha : PA X [e] ta) (hs : starEach [e] X.env = [(false, eval e X.env)] := by rfl) :
    PI X (.Tuple elts kk tpos) (.Call (.Name "enumerate" p) [e] [] pos) (iEnumA X.K ta) := by
  refine ⟨fun pins s σ H R I h => ?_⟩
  refine Call_ (ld_blt I hg hm boot_enumerate (PyProof.Rows.callWith_type1 (thn (ha.run pos pins s σ H _ I h) fun us s1 ⟨vs, H1, I1, r1, q1⟩ => ?_) hs rfl))
  obtain ⟨a, xs, ex, q1⟩ := q1
  subst ex
  cases r1 with
  | cons r rr =>
    cases rr
    cases r
    have fr : ∀ b ∈ [s1.heap.objs.size + 1, s1.heap.objs.size], FpOk X pins H1 b := fun b hb => by
      have e' : b = s1.heap.objs.size + 1 ∨ b = s1.heap.objs.size := by simpa using hb
      have hle : s1.heap.objs.size ≤ b := by
        rcases e' with z | z
        · rw [z]; exact Nat.le_add_right _ _
        · rw [z]; exact Nat.le_refl _
      exact I1.fpOk hle (I1.hok.fresh hle)
    rcases q1 with ⟨hq, q⟩ | ⟨hq, q⟩
    · obtain ⟨its, rv, p', hz⟩ := I1.list hq
      refine call_enumerate_list p'.isList fun h' he hit hsz hk => wpAny_pyIter_enum he ?_
      have I2 : Inv X pins σ H1 { s1 with heap := h' } := I1.kept (t' := s1.toks) hk
      exact ⟨s1.heap.objs.size + 1, [s1.heap.objs.size + 1, s1.heap.objs.size], _, _, H1, rfl, I2, turn_enum a (s1.heap.objs.size + 1) s1.heap.objs.size, ⟨⟨.none, he⟩, hit, Nat.succ_ne_self _⟩, fr, q⟩
    · obtain ⟨its, rv, p', hz⟩ := I1.tuple hq
      obtain ⟨o1, ho1, _⟩ := id p'
      have hlt := Heap.lt_size ho1
      refine call_enum1 (begins_tuple a its.toArray) p' fun h' he hit hsz hk => wpAny_pyIter_enum he ?_
      have I2 : Inv X pins σ H1 { s1 with heap := h' } := I1.kept (t' := s1.toks) hk
      exact ⟨s1.heap.objs.size + 1, [s1.heap.objs.size + 1, s1.heap.objs.size], _, _, H1, rfl, I2, turn_enumT a (s1.heap.objs.size + 1) s1.heap.objs.size, ⟨⟨.none, he⟩, ⟨_, hit, rfl, rfl⟩, Nat.succ_ne_self _, Nat.ne_of_lt hlt, Nat.ne_of_gt (Nat.lt_succ_of_lt hlt)⟩, fr, q⟩
end Z
set_option maxRecDepth 100000
set_option maxHeartbeats 2000000
namespace Z
open PySem PySem.Spec PyProof.Rows L2

def enumD : Nat → List PyData → List PyData
  | _, [] => []
  | k, x :: xs => .tuple [.int k, x] :: enumD (k + 1) xs
theorem enumD_len : ∀ (k : Nat) (xs : List PyData), (enumD k xs).length = xs.length
  | _, [] => rfl
  | k, x :: xs => by simp [enumD, enumD_len (k + 1) xs]
theorem enumD_get : ∀ {k : Nat} {xs : List PyData} {i : Nat} {d : PyData}, (enumD k xs)[i]? = some d → ∃ x, xs[i]? = some x ∧ d = .tuple [.int ((k + i : Nat) : Int), x]
  | _, [], _, _, h => by simp [enumD] at h
  | k, x :: xs, 0, d, h => by simp [enumD] at h; exact ⟨x, rfl, by rw [← h]; simp⟩
  | k, x :: xs, i + 1, d, h => by
    have h : (enumD (k + 1) xs)[i]? = some d := by simpa [enumD] using h
    obtain ⟨y, h1, h2⟩ := enumD_get h
    exact ⟨y, by simpa using h1, by rw [h2, show k + 1 + i = k + (i + 1) by omega]⟩
@[simp] def wEnum (a : Ex) (σ : Sg) (S : Sto) : Option (Res Wk) := Res.bnd (a σ S) fun x S1 => match x with
  | .d (.list xs) => some (.ok ⟨enumD 0 xs, none⟩ S1)
  | .d (.tuple xs) => some (.ok ⟨enumD 0 xs, none⟩ S1)
  | _ => none
section
variable {X : Cx} {W : WX} {a : Expr} {ea : Ex} {pos p0 : Pos}
theorem di_enum {elts : List Expr} {kk : Nat} {tpos : Pos} (hm : X.mg "enumerate" = none) (ha : DE X W a ea) (hg : Gl X "enumerate" := by rfl)
    (hs : starEach [a] X.env = [(false, eval a X.env)] := by rfl) : DI X W (.Tuple elts kk tpos) (.Call (.Name "enumerate" p0) [a] [] pos) (wEnum ea) :=
  pi_imp (pi_enumA hg hm (pa_cons ha pa_nil hs) hs) fun σV H R ⟨f, σ, S, r, hE, hS, hr, hq⟩ => by
    have hx : ∀ x S', r = .exc x S' → XS X W f σV H x S' := fun x S' e => by subst e; exact hq
    refine TX.first hE hS hr hx fun x S1 vx H1 _ h1 s1 k1 e1 r1 => ?_
    split at h1
    · cases h1
      cases r1 with
      | @lst a xs ds g1 g2 =>
      refine ⟨a, xs, rfl, .inl ⟨g1.sq, hq _ H1 s1 k1 ⟨fun i d f' S H' hd k g p s o => ?_, fun i f' S H' hi k g p s o => ?_⟩⟩⟩
      · obtain ⟨d1, e1, rfl⟩ := enumD_get hd
        obtain ⟨v1, hv1, iv1⟩ := (g2.keep k g).get e1
        refine ⟨⟨xs, v1, (g1.keep k g).sq, hv1⟩, fun x H'' ⟨T, x1, ex, nT, eH, f1⟩ => ?_⟩
        subst ex eH
        have q1 := f1 xs (g1.keep k g).sq
        rw [hv1] at q1
        cases q1
        rw [Nat.zero_add]
        exact ⟨s.laid nT, Kp.new nT, Is.tup (.inl ⟨.inl upd_same, s.free nT⟩) (.cons (.int _) (.cons (Is.keep (Kp.new nT).q (Gr.refl _ _) iv1) .nil))⟩
      · have hi : (enumD 0 _).length ≤ i := hi
        rw [enumD_len] at hi
        exact ⟨xs, (g1.keep k g).sq, by rw [g2.len]; omega⟩
    · cases h1
      cases r1 with
      | @tup a xs ds g1 g2 =>
      refine ⟨a, xs, rfl, .inr ⟨g1.sq, hq _ H1 s1 k1 ⟨fun i d f' S H' hd k g p s o => ?_, fun i f' S H' hi k g p s o => ?_⟩⟩⟩
      · obtain ⟨d1, e1, rfl⟩ := enumD_get hd
        obtain ⟨v1, hv1, iv1⟩ := (g2.keep k g).get e1
        refine ⟨⟨xs, v1, (g1.keep k g).sq, hv1⟩, fun x H'' ⟨T, x1, ex, nT, eH, f1⟩ => ?_⟩
        subst ex eH
        have q1 := f1 xs (g1.keep k g).sq
        rw [hv1] at q1
        cases q1
        rw [Nat.zero_add]
        exact ⟨s.laid nT, Kp.new nT, Is.tup (.inl ⟨.inl upd_same, s.free nT⟩) (.cons (.int _) (.cons (Is.keep (Kp.new nT).q (Gr.refl _ _) iv1) .nil))⟩
      · have hi : (enumD 0 _).length ≤ i := hi
        rw [enumD_len] at hi
        exact ⟨xs, (g1.keep k g).sq, by rw [g2.len]; omega⟩
    · cases h1
end
end Z
set_option maxRecDepth 100000
set_option maxHeartbeats 2000000
namespace Z
open PySem PySem.Spec PyProof.Rows L2
/-! ## x.pop() of a list of the store -/
@[simp] def ePop (eo : Ex) (σ : Sg) (S : Sto) : Option (Res SV) := Res.bnd (eo σ S) fun x S1 => match x with
  | .r i => match S1[i]? with
    | some (.lst ds) => match ds[ds.length - 1]? with
      | some d => some (.ok (.d d) (S1.set i (.lst ds.dropLast)))
      | none => none
    | _ => none
  | _ => none
theorem IsAll.dropLast {K : PySem.W.Frag} {f : Ow} {H : Hp} : ∀ {vs : List V} {ds : List PyData}, IsAll K f H vs ds → IsAll K f H vs.dropLast ds.dropLast
  | _, _, .nil => .nil
  | _, _, .cons h .nil => .nil
  | _, _, .cons h (.cons h2 r) => .cons h (IsAll.dropLast (.cons h2 r))
section
variable {X : Cx} {W : WX} {o : Expr} {eo : Ex} {pos apos : Pos}
theorem de_pop (ho : DE X W o eo) (hbase : attributeBase o "pop" X.env (eval o X.env) = eval o X.env := by rfl) (hline : (apos.endLine == pos.line) = true := by rfl) :
    DE X W (.Call (.Attribute o "pop" apos) [] [] pos) (ePop eo) :=
  pe_imp (pe_bm0 PySem.F.plainAttrs_list PySem.F.slot_list_pop PySem.F.type_list_pop mt_pop ho hbase hline) fun σV H Q ⟨f, σ, S, r, hE, hS, hr, hq⟩ => by
    have hx := exc_way hq
    refine TX.first hE hS hr hx fun x S1 vx H1 g1 h1 s1 k1 e1 r1 => ?_
    cases x with
    | d x => cases h1
    | s ns => cases h1
    | k a x c d => cases h1
    | t a1 a2 a3 a4 a5 => cases h1
    | r i =>
    obtain ⟨p, ep, rfl⟩ := r1
    dsimp only at h1
    split at h1
    case h_2 => cases h1
    rename_i ds es
    split at h1
    case h_2 => cases h1
    rename_i d ed
    cases h1
    obtain ⟨vs, hv, iv⟩ := s1.at_ i _ p es ep
    obtain ⟨v, hv2, ivv⟩ := iv.get ed
    have hl := iv.len
    refine ⟨.inl ⟨rfl, vs, .inl (.inl hv)⟩, p, vs, v, rfl, rfl, hv, by rw [hl]; exact hv2, ?_⟩
    have kk : Kp f H1 (upd H1 p (.lst vs.dropLast)) := Kp.put ep
    exact hq _ _ (s1.put ep ⟨_, upd_same, (iv.keep kk.q (Gr.refl _ _)).dropLast⟩) (k1.trans kk) (Is.keep kk.q (Gr.refl _ _) ivv)
end
end Z
set_option maxRecDepth 100000
set_option maxHeartbeats 2000000
namespace Z
open PySem PySem.Spec PyProof.Rows L2
/-! ## dicts of the store, by ints and texts -/
def valD (kvs : List (Key × PyData)) (k : Key) : Option PyData := (kvs.find? fun kv => decide (kv.1 = k)).map (·.2)
def putD (kvs : List (Key × PyData)) (k : Key) (v : PyData) : List (Key × PyData) :=
  if (kvs.any fun kv => decide (kv.1 = k)) = true then kvs.map (fun kv => if kv.1 = k then (kv.1, v) else kv) else kvs ++ [(k, v)]
def keyD : PyData → Option Key
  | .int i => some (.inl i)
  | .str x => some (.inr x)
  | _ => none
variable {K : PySem.W.Frag} {f : Ow} {H : Hp}
theorem IsKd.val : ∀ {vs : List (Key × V)} {ds : List (Key × PyData)} (k : Key), IsKd K f H vs ds → (valV vs k = none ∧ valD ds k = none) ∨ ∃ v d, valV vs k = some v ∧ valD ds k = some d ∧ Is K f H v d
  | _, _, k, .nil => .inl ⟨rfl, rfl⟩
  | _, _, k, @IsKd.cons _ _ _ k0 v vs d ds h r => by
    by_cases e : k0 = k
    · exact .inr ⟨v, d, by simp [valV, e], by simp [valD, e], h⟩
    · have ih := IsKd.val k r
      have e1 : valV ((k0, v) :: vs) k = valV vs k := by simp [valV, e]
      have e2 : valD ((k0, d) :: ds) k = valD ds k := by simp [valD, e]
      rw [e1, e2]
      exact ih
theorem IsKd.len : ∀ {vs : List (Key × V)} {ds : List (Key × PyData)}, IsKd K f H vs ds → vs.length = ds.length
  | _, _, .nil => rfl
  | _, _, .cons _ r => by simp [r.len]
theorem IsKd.anyK : ∀ {vs : List (Key × V)} {ds : List (Key × PyData)} (k : Key), IsKd K f H vs ds → (vs.any fun kv => decide (kv.1 = k)) = ds.any fun kv => decide (kv.1 = k)
  | _, _, k, .nil => rfl
  | _, _, k, .cons _ r => by simp only [List.any_cons, r.anyK k]
theorem IsKd.mapK {v : V} {d : PyData} (k : Key) (h : Is K f H v d) : ∀ {vs : List (Key × V)} {ds : List (Key × PyData)}, IsKd K f H vs ds → IsKd K f H (vs.map fun kv => if kv.1 = k then (kv.1, v) else kv) (ds.map fun kv => if kv.1 = k then (kv.1, d) else kv)
  | _, _, .nil => .nil
  | _, _, @IsKd.cons _ _ _ k0 v0 vs d0 ds h0 r => by
    simp only [List.map_cons]
    by_cases e : k0 = k
    · simp only [e, if_true]
      exact .cons h (IsKd.mapK k h r)
    · simp only [e, if_false]
      exact .cons h0 (IsKd.mapK k h r)
theorem IsKd.snoc {v : V} {d : PyData} (k : Key) (h : Is K f H v d) : ∀ {vs : List (Key × V)} {ds : List (Key × PyData)}, IsKd K f H vs ds → IsKd K f H (vs ++ [(k, v)]) (ds ++ [(k, d)])
  | _, _, .nil => .cons h .nil
  | _, _, .cons h0 r => .cons h0 (IsKd.snoc k h r)
theorem IsKd.put {v : V} {d : PyData} (k : Key) (h : Is K f H v d) {vs : List (Key × V)} {ds : List (Key × PyData)} (r : IsKd K f H vs ds) : IsKd K f H (putK vs k v) (putD ds k d) := by
  unfold putK putD
  rw [r.anyK k]
  split
  · exact IsKd.mapK k h r
  · exact IsKd.snoc k h r
theorem keyD_is {v : V} {d : PyData} {k : Key} (h : Is K f H v d) (e : keyD d = some k) : v = kV k := by
  cases h <;> first | (simp [keyD] at e; done) | (simp only [keyD, Option.some.injEq] at e; subst e; rfl)
@[simp] def nDct (_ : Sg) (S : Sto) : Option (Res Ob) := some (.ok (.dct []) S)
@[simp] def eDGet (eo ea : Ex) (σ : Sg) (S : Sto) : Option (Res SV) := Res.bnd (eo σ S) fun x S1 => match x with
  | .r i => match S1[i]? with
    | some (.dct _) => Res.bnd (ea σ S1) fun y S2 => match y with
      | .d d => match keyD d, S2[i]? with
        | some k, some (.dct kvs) => some (.ok (.d ((valD kvs k).getD .none)) S2)
        | _, _ => none
      | _ => none
    | _ => none
  | _ => none
section
variable {X : Cx} {W : WX} {o a : Expr} {eo ea : Ex} {pos apos : Pos}
theorem dn_dct : DN X W (.Dict [] [] pos) nDct := pe_imp pe_dnewK fun σV H Q ⟨f, σ, S, r, hE, hS, he, hq⟩ => by
  cases he
  exact fun p np => hq p _ np (hS.own np ⟨_, upd_same, .nil⟩) (Kp.new np)
theorem de_dget (hu : X.A.units + 1 < cLine) (ho : DE X W o eo) (ha : DE X W a ea) (m : M1 X o "get" apos a pos := by exact ⟨rfl, rfl, rfl, rfl⟩) : DE X W (.Call (.Attribute o "get" apos) [a] [] pos) (eDGet eo ea) :=
  pe_imp (pe_dget1 hu ho ha m) fun σV H Q ⟨f, σ, S, r, hE, hS, hr, hq⟩ => by
    have hx := exc_way hq
    refine TX.first hE hS hr hx fun x S1 vx H1 _ h1 s1 k1 e1 r1 => ?_
    cases x with
    | d x => cases h1
    | s ns => cases h1
    | k a x c d => cases h1
    | t a1 a2 a3 a4 a5 => cases h1
    | r i =>
    obtain ⟨p, ep, rfl⟩ := r1
    dsimp only at h1
    split at h1
    case h_2 => cases h1
    rename_i kv0 es
    obtain ⟨kvs0, hk0, _⟩ := s1.at_ i _ p es ep
    refine ⟨p, rfl, .inl ⟨kvs0, .inl hk0⟩, TX.first e1 s1 h1 (fun y S' e => (hx y S' e).kp k1) fun y S2 vy H2 _ h2 s2 k2 e2 r2 => ?_⟩
    cases y with
    | r j => cases h2
    | s ns => cases h2
    | k a x c d => cases h2
    | t a1 a2 a3 a4 a5 => cases h2
    | d d =>
    dsimp only at h2
    split at h2
    · rename_i k kvs ek es2
      cases h2
      obtain ⟨ks, hk2, ik⟩ := s2.at_ i _ p es2 ep
      have := keyD_is r2 ek
      subst this
      refine ⟨valV ks k, DGet.k hk2, ?_⟩
      rcases ik.val k with ⟨a1, a2⟩ | ⟨v, d', a1, a2, a3⟩
      · rw [a1]
        rw [a2] at hq
        exact hq _ H2 s2 (k1.trans k2) Is.non
      · rw [a1]
        rw [a2] at hq
        exact hq _ H2 s2 (k1.trans k2) a3
    · cases h2
@[simp] def eDIx (eo ea : Ex) (σ : Sg) (S : Sto) : Option (Res SV) := Res.bnd (eo σ S) fun x S1 => match x with
  | .r i => Res.bnd (ea σ S1) fun y S2 => match y with
    | .d d => match keyD d, S2[i]? with
      | some k, some (.dct kvs) => (valD kvs k).map fun v => .ok (.d v) S2
      | _, _ => none
    | _ => none
  | _ => none
theorem de_dix (hu : X.A.units + 1 < cLine) (ho : DE X W o eo) (ha : DE X W a ea) (hs : NoSl a := by intro _ _; rfl) : DE X W (.Subscript o a pos) (eDIx eo ea) :=
  pe_imp (pe_dget hu ho ha hs) fun σV H Q ⟨f, σ, S, r, hE, hS, hr, hq⟩ => by
    have hx := exc_way hq
    refine TX.first hE hS hr hx fun x S1 vx H1 _ h1 s1 k1 e1 r1 => ?_
    cases x with
    | d x => cases h1
    | s ns => cases h1
    | k a x c d => cases h1
    | t a1 a2 a3 a4 a5 => cases h1
    | r i =>
    obtain ⟨p, ep, rfl⟩ := r1
    refine TX.first e1 s1 h1 (fun y S' e => (hx y S' e).kp k1) fun y S2 vy H2 _ h2 s2 k2 e2 r2 => ?_
    cases y with
    | r j => cases h2
    | s ns => cases h2
    | k a x c d => cases h2
    | t a1 a2 a3 a4 a5 => cases h2
    | d d =>
    dsimp only at h2
    split at h2
    · rename_i k kvs ek es2
      cases ev : valD kvs k with
      | none => rw [ev] at h2; cases h2
      | some v0 =>
      rw [ev] at h2
      cases h2
      obtain ⟨ks, hk2, ik⟩ := s2.at_ i _ p es2 ep
      have := keyD_is r2 ek
      subst this
      rcases ik.val k with ⟨a1, a2⟩ | ⟨v, d', a1, a2, a3⟩
      · rw [a2] at ev; cases ev
      · rw [a2] at ev
        cases ev
        exact ⟨p, v, rfl, a1 ▸ DGet.k hk2, hq _ H2 s2 (k1.trans k2) a3⟩
    · cases h2
@[simp] def sDSet (ev eo ei : Ex) (σ : Sg) (S : Sto) : Option Flow := Sm.bnd (ev σ S) fun v S1 => Sm.bnd (eo σ S1) fun o S2 => Sm.bnd (ei σ S2) fun i S3 => match v, o, i with
  | .d d, .r j, .d kd => match keyD kd, S3[j]? with
    | some k, some (.dct kvs) => if kvs.length < sizeLine then some (.nx σ (S3.set j (.dct (putD kvs k d)))) else none
    | _, _ => none
  | _, _, _ => none
theorem ds_dset {i e : Expr} {ei ev : Ex} {tpos : Pos} (hu : X.A.units + 1 < cLine) (he : DE X W e ev) (ho : DE X W o eo) (hi : DE X W i ei)
    (hs : swapsWith e (some (.Subscript o i tpos)) pos.line X.env = pure false := by rfl) : DS X W (.Assign [.Subscript o i tpos] e pos) (sDSet ev eo ei) :=
  ps_imp (ps_dput hu ho hi he hs) fun D σV H ⟨f, σ, S, r, hE, hS, hr, hf⟩ => by
    refine TX.stm hE hS hr hf fun v S1 u H1 h1 f1 s1 k1 e1 r1 => ?_
    refine TX.stm e1 s1 h1 f1 fun x S2 vo H2 h2 f2 s2 k2 e2 r2 => ?_
    refine TX.stm e2 s2 h2 f2 fun y S3 vi H3 h3 f3 s3 k3 e3 r3 => ?_
    split at h3
    · rename_i d j kd
      split at h3
      · rename_i k kvs ek eS
        split at h3
        · rename_i hz
          cases h3
          obtain ⟨p, ep, rfl⟩ := r2
          obtain ⟨ks, hk3, ik⟩ := s3.at_ j _ p eS ep
          have := keyD_is r3 ek
          subst this
          have kk : Kp f H3 (upd H3 p (.dK (putK ks k u))) := Kp.put ep
          have s4 : StoR X.K f (S3.set j (.dct (putD kvs k d))) (upd H3 p (.dK (putK ks k u))) := s3.put ep ⟨_, upd_same, IsKd.put k (Is.keep kk.q (Gr.refl _ _) ((SvR.kp (x := .d d) r1 k2).kp k3)) (IsKd.keep kk.q (Gr.refl _ _) ik)⟩
          exact ⟨p, _, rfl, DPut.k hk3 (by rw [ik.len]; exact hz), ReS.now (f3.kp s4 kk) s4 (e3.kp kk)⟩
        · cases h3
      · cases h3
    · cases h3
end
end Z
set_option maxRecDepth 100000
set_option maxHeartbeats 2000000
namespace Z
open PySem PySem.Spec PyProof.Rows L2
/-! ## the truth of lists and tuples -/
@[simp] def truD (x : SV) (S : Sto) : Option Bool := match x with
  | .d (.bool b) => some b
  | .d (.list ds) => some (!ds.isEmpty)
  | .d (.tuple ds) => some (!ds.isEmpty)
  | .r i => match S[i]? with
    | some (.lst ds) => some (!ds.isEmpty)
    | _ => none
  | _ => none
@[simp] def tTru (a : Ex) (σ : Sg) (S : Sto) : Option (Res Bool) := Res.bnd (a σ S) fun x S1 => (truD x S1).map fun b => .ok b S1
theorem emp_is {K : PySem.W.Frag} {f : Ow} {H : Hp} {vs : List V} {ds : List PyData} (h : IsAll K f H vs ds) : vs.isEmpty = ds.isEmpty := by
  cases h <;> rfl
section
variable {X : Cx} {W : WX} {a : Expr} {ea : Ex}
theorem dt_tru (ha : DE X W a ea) (he : ∀ whole, isTrue a X.env whole = (do let v ← whole; standAt a.pos; holding [v] (truthy v)) := by intro _; rfl) : DT X W a (tTru ea) :=
  pt_imp (pt_truth ha he) fun σV H Q ⟨f, σ, S, r, hE, hS, hr, hq⟩ => by
    refine TX.first hE hS hr (fun x S' e => by subst e; exact hq) fun x S1 vx H1 _ h1 s1 k1 e1 r1 => ?_
    cases et : truD x S1 with
    | none => rw [et] at h1; cases h1
    | some b =>
    rw [et] at h1
    cases h1
    unfold truD at et
    split at et
    · cases et
      cases r1
      exact ⟨_, rfl, hq H1 s1 k1⟩
    · cases et
      cases r1 with
      | @lst p xs ds g1 g2 => exact ⟨_, .inl ⟨xs, g1.sq, rfl⟩, by rw [emp_is g2]; exact hq H1 s1 k1⟩
    · cases et
      cases r1 with
      | @tup p xs ds g1 g2 => exact ⟨_, .inr (.inl ⟨xs, g1.sq, rfl⟩), by rw [emp_is g2]; exact hq H1 s1 k1⟩
    · rename_i i _
      split at et
      · rename_i ds es
        cases et
        obtain ⟨p, ep, rfl⟩ := r1
        obtain ⟨vs, hv, iv⟩ := s1.at_ i _ p es ep
        exact ⟨_, .inl ⟨vs, .inl (.inl hv), rfl⟩, by rw [emp_is iv]; exact hq H1 s1 k1⟩
      · cases et
    · cases et
end
end Z
set_option maxRecDepth 100000
set_option maxHeartbeats 2000000
namespace Z
open PySem PySem.Spec PyProof.Rows L2

/-! ## zip of any number of tuples: its next -/
/-- an iterator, its tuple, the tuple's items -/
abbrev Rw := Addr × Addr × Array Value
def RowOk (h : Heap) (k : Nat) (p : Rw) : Prop := h.IsTupleIter p.1 p.2.1 k ∧ h.IsTuple p.2.1 p.2.2
theorem RowOk.keep {h h' : Heap} {k : Nat} {p : Rw} (x : RowOk h k p) (a : ∀ o, h.get? p.1 = some o → h'.get? p.1 = some o) (b : ∀ o, h.get? p.2.1 = some o → h'.get? p.2.1 = some o) : RowOk h' k p :=
  ⟨x.1.at a, x.2.at b⟩
abbrev ZF (h : Heap) (z TI TO : Addr) (f0 : Value) (f1 : Bool) : Prop :=
  h.get? z = some { cls := .type "zip", dict := none, data := .fields #[f0, .bool f1, .bool false, .ref TI, .ref TO], slots := #[] }
abbrev ZTI (h : Heap) (TI : Addr) (L : List Rw) : Prop := h.get? TI = some { cls := .type "tuple", data := .seq (L.map fun p => Value.ref p.1).toArray }
abbrev ZTO (h : Heap) (TO : Addr) (arr : List Value) : Prop := ∃ n, h.get? TO = some { cls := .type "tuple", dict := none, data := .seq arr.toArray n, slots := #[] }
def rv (L : List Rw) (k : Nat) : List Value := L.map fun p => p.2.2.getD k .none
structure ZSep (z TI TO : Addr) (L : List Rw) : Prop where
  TIz : TI ≠ z
  TOz : TO ≠ z
  TITO : TI ≠ TO
  nd : (L.map (·.1)).Nodup
  i_ : ∀ p ∈ L, p.1 ≠ z ∧ p.1 ≠ TI ∧ p.1 ≠ TO
  t_ : ∀ p ∈ L, p.2.1 ≠ z ∧ p.2.1 ≠ TO
  ti : ∀ p ∈ L, ∀ q ∈ L, p.2.1 ≠ q.1
section
variable {prog : Program} {w : World} {A : Around} {E : Value → Shared → Prop} {s : Shared} {z TI TO : Addr} {L : List Rw}
theorem zn_free {f0 : Value} {f1 : Bool} {Q : Bool → Shared → Prop} (hz : ZF s.heap z TI TO f0 f1) (h0 : f0 = .none ∨ ∃ T : Addr, f0 = rawInt T)
    (h : ∀ b f1' h', ZF h' z TI TO f0 f1' → Heap.SameBut z s.heap h' → Q b { s with heap := h' }) : wpAny (model prog w) A (Builtin.SmallTypes.ownedTupleIsFree (.ref z)) Q E s := by
  unfold Builtin.SmallTypes.ownedTupleIsFree
  rcases h0 with rfl | ⟨T, rfl⟩
  · exact wpAny_bind (wpAny_field hz rfl (x := .none) rfl (wpAny_pure (h true f1 s.heap hz (Heap.SameBut.refl _ _))))
  · refine wpAny_bind (wpAny_field hz rfl (x := rawInt T) rfl ?_)
    show wpAny _ _ (loadIfAlive ((T : Int).toNat) >>= _) _ _ _
    rw [Int.toNat_natCast]
    have la : ∀ {Q' : Option Obj → Shared → Prop}, Q' (s.heap.get? T) s → wpAny (model prog w) A (loadIfAlive T) Q' E s := fun h' => fun _ _ _ => h'
    refine wpAny_bind (la ?_)
    cases s.heap.get? T with
    | none => exact wpAny_pure (h true f1 s.heap hz (Heap.SameBut.refl _ _))
    | some o =>
      simp only [Option.isNone_some, Bool.false_eq_true, if_false]
      refine wpAny_bind (wpAny_field hz rfl (x := .bool f1) rfl ?_)
      cases f1 with
      | true =>
        rw [if_neg (show ¬ ((Value.bool true != Value.bool true) = true) from Bool.false_ne_true)]
        exact wpAny_pure (h false true s.heap hz (Heap.SameBut.refl _ _))
      | false =>
        rw [if_pos (show (Value.bool false != Value.bool true) = true from rfl)]
        exact wpAny_bind (wpAny_setField_rec hz (by simp) fun h₁ hz₁ hs₁ => wpAny_pure (h false true h₁ hz₁ hs₁))

/-- how far the drawing is -/
structure Mid (h0 h : Heap) (TO : Addr) (k : Nat) (done todo : List Rw) : Prop where
  sz : h.objs.size = h0.objs.size
  kp : ∀ c o, c ≠ TO → (∀ p ∈ done ++ todo, c ≠ p.1) → h0.get? c = some o → h.get? c = some o
  dn : ∀ p ∈ done, RowOk h (k + 1) p
  td : ∀ p ∈ todo, RowOk h k p
theorem Mid.step {h0 h h' : Heap} {k : Nat} {done todo : List Rw} {p : Rw} (S : ZSep z TI TO (done ++ p :: todo)) (M : Mid h0 h TO k done (p :: todo)) (hi : h'.IsTupleIter p.1 p.2.1 (k + 1)) (hs : Heap.SameBut p.1 h h') : Mid h0 h' TO k (done ++ [p]) todo := by
  have hp : p ∈ done ++ p :: todo := by simp
  have nd := S.nd
  rw [List.map_append, List.map_cons] at nd
  have nd1 : ∀ q ∈ done, q.1 ≠ p.1 := fun q hq e => (List.nodup_append.mp nd).2.2 q.1 (List.mem_map_of_mem hq) p.1 List.mem_cons_self e
  have nd2 : ∀ q ∈ todo, q.1 ≠ p.1 := fun q hq e => (List.nodup_cons.mp (List.nodup_append.mp nd).2.1).1 (e ▸ List.mem_map_of_mem (f := (·.1)) hq)
  have up : ∀ q j, q ∈ done ++ p :: todo → q.1 ≠ p.1 → RowOk h j q → RowOk h' j q := fun q j hq hn x =>
    x.keep (fun o e => hs.extBut _ _ hn e) (fun o e => hs.extBut _ _ (S.ti q hq p hp) e)
  refine ⟨hs.1.trans M.sz, fun c o hc hd e => hs.extBut _ _ (hd p (by simp)) (M.kp c o hc (fun q hq => hd q (by simpa using hq)) e), fun q hq => ?_, fun q hq => up q k (by simp [hq]) (nd2 q hq) (M.td q (by simp [hq]))⟩
  rcases List.mem_append.mp hq with hq | hq
  · exact up q _ (by simp [hq]) (nd1 q hq) (M.dn q hq)
  · rw [List.mem_singleton.mp hq]
    exact ⟨hi, (M.td p (by simp)).2.at fun o e => hs.extBut _ _ (S.ti p hp p hp) e⟩
theorem rv_app (done : List Rw) (p : Rw) (k : Nat) {x : Value} (hx : p.2.2[k]? = some x) : rv (done ++ [p]) k = rv done k ++ [x] := by
  unfold rv
  rw [List.map_append]
  congr 1
  show [p.2.2.getD k .none] = [x]
  rw [Array.getD_eq_getD_getElem?, hx]; rfl
/-- the next item where the tuple isn't free, or is: all rows have one -/
theorem zn_item {k : Nat} {f0 : Value} {f1 : Bool} {arr : List Value} {Q : Value → Shared → Prop} (S : ZSep z TI TO L) (hne : L ≠ []) (hL : L.length ≤ sizeLine)
    (hz : ZF s.heap z TI TO f0 f1) (h0 : f0 = .none ∨ ∃ T : Addr, f0 = rawInt T) (hTI : ZTI s.heap TI L) (hTO : ZTO s.heap TO arr) (ha : arr.length = L.length) (hr : ∀ p ∈ L, RowOk s.heap k p) (hk : ∀ p ∈ L, k < p.2.2.size)
    (hQ : ∀ h' f0' f1' arr', ZF h' z TI TO f0' f1' → (f0' = .none ∨ ∃ T : Addr, f0' = rawInt T) → ZTO h' TO arr' → arr'.length = L.length → (∀ p ∈ L, RowOk h' (k + 1) p) →
      h'.get? s.heap.objs.size = some { cls := .type "tuple", data := .seq (rv L k).toArray } → h'.objs.size = s.heap.objs.size + 1 →
      (∀ c o, c ≠ z → c ≠ TO → (∀ p ∈ L, c ≠ p.1) → s.heap.get? c = some o → h'.get? c = some o) → Q (.ref s.heap.objs.size) { s with heap := h' }) :
    wpAny (model prog w) A (Builtin.«zip.__next__» ⟨[.ref z], []⟩) (fun fin s' => ∃ v, fin = .done (.ret v) ∧ Q v s') E s := by
  show wpAny _ _ (field (.ref z) 2 >>= _) _ _ _
  refine wpAny_bind (wpAny_field hz rfl (x := .bool false) rfl ?_)
  show wpAny _ _ (field (.ref z) 3 >>= _) _ _ _
  refine wpAny_bind (wpAny_field hz rfl (x := .ref TI) rfl ?_)
  refine wpAny_bind (wpAny_seqItems hTI rfl ?_)
  have hemp : (L.map fun p => Value.ref p.1).toArray.isEmpty = false := by
    cases L with
    | nil => exact absurd rfl hne
    | cons a t => simp
  simp only [hemp, Bool.false_eq_true, if_false]
  try show wpAny _ _ (Builtin.SmallTypes.ownedTupleIsFree (.ref z) >>= _) _ _ _
  refine wpAny_bind (zn_free hz h0 fun b f1' h₁ hz₁ hs₁ => ?_)
  have hTO1 : ZTO h₁ TO arr := let ⟨n, e⟩ := hTO; ⟨n, hs₁.extBut _ _ S.TOz e⟩
  have hr1 : ∀ p ∈ L, RowOk h₁ k p := fun p hp => (hr p hp).keep (fun o e => hs₁.extBut _ _ (S.i_ p hp).1 e) (fun o e => hs₁.extBut _ _ (S.t_ p hp).1 e)
  cases b with
  | false =>
    simp only [Bool.false_eq_true, if_false]
    refine wpAny_bind ?_
    rw [← Array.forIn_toList]
    refine wpAny_forIn_list _ (fun rest b t => ∃ done todo h, L = done ++ todo ∧ rest = todo.map (fun p => Value.ref p.1) ∧ b = (none, (rv done k).toArray) ∧ t = { s with heap := h } ∧ Mid h₁ h TO k done todo ∧ ZTO h TO arr) _ ?_ ?_ _ _ ⟨[], L, h₁, rfl, by simp, rfl, rfl, ⟨rfl, fun c o _ _ e => e, (fun _ hp => nomatch hp), hr1⟩, hTO1⟩
    · rintro x rest b t ⟨done, todo, h, eL, er, rfl, rfl, M, hT⟩
      cases todo with
      | nil => cases er
      | cons p todo =>
        obtain ⟨rfl, rfl⟩ := List.cons.inj er
        have hp : p ∈ L := by rw [eL]; simp
        obtain ⟨vx, hx⟩ : ∃ vx, p.2.2[k]? = some vx := ⟨_, Array.getElem?_eq_getElem (hk p hp)⟩
        refine wpAny_bind (wpAny_holding ?_)
        show wpAny _ _ (Builtin.SmallTypes.nextOf (.ref p.1) >>= _) _ _ _
        refine wpAny_bind (RZ.nextOf_tuple_item (s := { s with heap := h }) (M.td p (by simp)).1 (M.td p (by simp)).2 hx fun h' hi hs => wpAny_pure (wpAny_pure ?_))
        refine ⟨done ++ [p], todo, h', by rw [eL]; simp, rfl, ?_, rfl, Mid.step (eL ▸ S) M hi hs, let ⟨n, e⟩ := hT; ⟨n, hs.extBut _ _ (S.i_ p hp).2.2.symm e⟩⟩
        rw [rv_app done p k hx]
        simp
    · rintro b t ⟨done, todo, h, eL, er, rfl, rfl, M, hT⟩
      have ht : todo = [] := by
        cases todo with
        | nil => rfl
        | cons a b => cases er
      subst ht
      have eL : L = done := by rw [eL, List.append_nil]
      subst eL
      have hzt : ZF h z TI TO f0 f1' := M.kp _ _ S.TOz.symm (fun p hp => (S.i_ p (by simpa using hp)).1.symm) hz₁
      have hsz : h.objs.size = s.heap.objs.size := M.sz.trans hs₁.1
      show wpAny _ _ (newTuple (rv L k).toArray.toList >>= _) _ _ _
      refine wpAny_bind (wpAny_newTuple ?_ (by simp [rv]; exact hL))
      refine wpAny_pure ⟨_, rfl, ?_⟩
      show Q (.ref h.objs.size) _
      have hp : (h.push { cls := .type "tuple", data := .seq (rv L k).toArray.toList.toArray }).get? h.objs.size = some { cls := .type "tuple", data := .seq (rv L k).toArray.toList.toArray } := Heap.get?_push_size _ rfl
      have hz4 : (h.push { cls := .type "tuple", data := .seq (rv L k).toArray.toList.toArray }).objs.size = h.objs.size + 1 := Heap.size_push ..
      rw [hsz] at hp hz4 ⊢
      exact hQ _ f0 f1' arr (Heap.get?_push_of_some _ hzt) h0 (let ⟨n, e⟩ := hT; ⟨n, Heap.get?_push_of_some _ e⟩) ha (fun p hp' => (M.dn p hp').keep (fun o e => Heap.get?_push_of_some _ e) (fun o e => Heap.get?_push_of_some _ e)) (by simpa using hp) hz4
        fun c o c1 c2 c3 e => Heap.get?_push_of_some _ (M.kp c o c2 (fun p hp' => c3 p (by simpa using hp')) (hs₁.extBut _ _ c1 e))
  | true =>
    simp only [if_true]
    refine wpAny_bind (wpAny_rule ?_)
    refine wpAny_bind (wpAny_field hz₁ rfl (x := .ref TO) rfl ?_)
    refine wpAny_bind (wpAny_setField_rec hz₁ (by simp) fun h₂ hz₂ hs₂ => ?_)
    replace hz₂ : ZF h₂ z TI TO .ellipsis f1' := hz₂
    replace hs₂ : Heap.SameBut z h₁ h₂ := hs₂
    have hTO2 : ZTO h₂ TO arr := let ⟨n, e⟩ := hTO1; ⟨n, hs₂.extBut _ _ S.TOz e⟩
    have hr2 : ∀ p ∈ L, RowOk h₂ k p := fun p hp => (hr1 p hp).keep (fun o e => hs₂.extBut _ _ (S.i_ p hp).1 e) (fun o e => hs₂.extBut _ _ (S.t_ p hp).1 e)
    refine wpAny_bind ?_
    refine wpAny_forIn_list _ (fun rest b t => ∃ done todo h ar, L = done ++ todo ∧ rest = (todo.map (fun p => Value.ref p.1)).zipIdx done.length ∧ b = (none, ()) ∧ t = { s with heap := h } ∧ Mid h₂ h TO k done todo ∧ ZTO h TO ar ∧ ar.length = L.length ∧ ar.take done.length = rv done k) _ ?_ ?_ _ _ ⟨[], L, h₂, arr, rfl, rfl, rfl, rfl, ⟨rfl, fun c o _ _ e => e, (fun _ hp => nomatch hp), hr2⟩, hTO2, ha, rfl⟩
    · rintro x rest b t ⟨done, todo, h, ar, eL, er, rfl, rfl, M, ⟨nT, hT⟩, hl, htk⟩
      cases todo with
      | nil => cases er
      | cons p todo =>
        rw [List.map_cons, List.zipIdx_cons] at er
        obtain ⟨rfl, rfl⟩ := List.cons.inj er
        have hp : p ∈ L := by rw [eL]; simp
        obtain ⟨vx, hx⟩ : ∃ vx, p.2.2[k]? = some vx := ⟨_, Array.getElem?_eq_getElem (hk p hp)⟩
        refine wpAny_bind (wpAny_onRaise ?_)
        show wpAny _ _ (Builtin.SmallTypes.nextOf (.ref p.1) >>= _) _ _ _
        refine wpAny_bind (RZ.nextOf_tuple_item (s := { s with heap := h }) (M.td p (by simp)).1 (M.td p (by simp)).2 hx fun h' hi hs => wpAny_pure ?_)
        replace hs : Heap.SameBut p.1 h h' := hs
        have hT' := hs.extBut _ _ (S.i_ p hp).2.2.symm hT
        refine wpAny_bind (wpAny_seqItems (s := { s with heap := h' }) hT' rfl ?_)
        refine wpAny_bind (wpAny_updateSeq (s := { s with heap := h' }) hT' rfl ?_)
        refine wpAny_bind (wpAny_letGo (wpAny_pure ?_))
        have M' := Mid.step (eL ▸ S) M hi hs
        have hu := Heap.get?_update_self (Obj.mapSeq (·.setIfInBounds done.length vx)) hT' rfl
        have hdl : done.length < ar.length := by rw [hl, eL]; simp
        have hT2 : ZTO (h'.update TO (Obj.mapSeq (·.setIfInBounds done.length vx))) TO (ar.set done.length vx) := by
          simp only [Obj.mapSeq, List.setIfInBounds_toArray] at hu
          exact ⟨_, hu⟩
        refine ⟨done ++ [p], todo, h'.update TO (Obj.mapSeq (·.setIfInBounds done.length vx)), ar.set done.length vx, by rw [eL]; simp, by simp, rfl, rfl, ⟨?_, fun c o c1 c2 e => ?_, fun q hq => ?_, fun q hq => ?_⟩, hT2, by simpa using hl, ?_⟩
        · rw [(Heap.SameBut.update ..).1]; exact M'.sz
        · exact (Heap.SameBut.update ..).extBut _ _ c1 (M'.kp c o c1 c2 e)
        · have hq' : q ∈ L := by rw [eL]; rcases List.mem_append.mp hq with z | z <;> simp_all
          exact (M'.dn q hq).keep (fun o e => (Heap.SameBut.update ..).extBut _ _ (S.i_ q hq').2.2 e) (fun o e => (Heap.SameBut.update ..).extBut _ _ (S.t_ q hq').2 e)
        · have hq' : q ∈ L := by rw [eL]; simp [hq]
          exact (M'.td q hq).keep (fun o e => (Heap.SameBut.update ..).extBut _ _ (S.i_ q hq').2.2 e) (fun o e => (Heap.SameBut.update ..).extBut _ _ (S.t_ q hq').2 e)
        · rw [rv_app done p k hx, ← htk, List.length_append, List.length_singleton]
          rw [List.take_succ_eq_append_getElem (by simpa using hdl)]
          simp [List.take_set_of_le]
    · rintro b t ⟨done, todo, h, ar, eL, er, rfl, rfl, M, ⟨nT, hT⟩, hl, htk⟩
      have ht : todo = [] := by
        cases todo with
        | nil => rfl
        | cons a b => simp at er
      subst ht
      have eL : L = done := by rw [eL, List.append_nil]
      subst eL
      have har : ar = rv L k := by rw [← htk, ← hl, List.take_length]
      subst har
      have hzt : ZF h z TI TO .ellipsis f1' := M.kp _ _ S.TOz.symm (fun p hp => (S.i_ p (by simpa using hp)).1.symm) hz₂
      have hsz : h.objs.size = s.heap.objs.size := M.sz.trans (hs₂.1.trans hs₁.1)
      show wpAny _ _ (seqItems? (.ref TO) >>= _) _ _ _
      refine wpAny_bind (wpAny_seqItems (s := { s with heap := h }) hT rfl ?_)
      refine wpAny_bind (wpAny_newTuple ?_ (by simp [rv]; exact hL))
      have hzlt : z < h.objs.size := Heap.lt_size hzt
      show wpAny _ _ (Builtin.SmallTypes.ownedTupleHandOut (.ref z) (.ref h.objs.size) >>= _) _ _ _
      refine wpAny_bind ?_
      unfold Builtin.SmallTypes.ownedTupleHandOut
      have hz₆ : ZF (h.push { cls := .type "tuple", data := .seq (rv L k).toArray.toList.toArray }) z TI TO .ellipsis f1' := Heap.get?_push_of_some _ hzt
      refine wpAny_bind (wpAny_setField_rec hz₆ (by simp) fun h₇ hz₇ hs₇ => ?_)
      replace hz₇ : ZF h₇ z TI TO (rawInt h.objs.size) f1' := hz₇
      refine wpAny_setField_rec hz₇ (by simp) fun h₈ hz₈ hs₈ => ?_
      replace hz₈ : ZF h₈ z TI TO (rawInt h.objs.size) false := hz₈
      replace hs₇ : Heap.SameBut z (h.push { cls := .type "tuple", data := .seq (rv L k).toArray.toList.toArray }) h₇ := hs₇
      replace hs₈ : Heap.SameBut z h₇ h₈ := hs₈
      have up : ∀ c o, c ≠ z → h.get? c = some o → h₈.get? c = some o := fun c o c1 e => hs₈.extBut _ _ c1 (hs₇.extBut _ _ c1 (Heap.get?_push_of_some _ e))
      have hT₈ : h₈.get? h.objs.size = some { cls := .type "tuple", data := .seq (rv L k).toArray.toList.toArray } := hs₈.extBut _ _ (Nat.ne_of_gt hzlt) (hs₇.extBut _ _ (Nat.ne_of_gt hzlt) (Heap.get?_push_size _ rfl))
      have hz8 : h₈.objs.size = h.objs.size + 1 := by rw [hs₈.1, hs₇.1, Heap.size_push]
      refine wpAny_pure ⟨_, rfl, ?_⟩
      show Q (.ref h.objs.size) _
      rw [hsz] at hz₈ hT₈ hz8 ⊢
      exact hQ h₈ _ _ (rv L k) hz₈ (.inr ⟨_, rfl⟩) ⟨_, up _ _ S.TOz hT⟩ hl (fun p hp' => (M.dn p hp').keep (fun o e => up _ _ (S.i_ p hp').1 e) (fun o e => up _ _ (S.t_ p hp').1 e)) (by simpa using hT₈) hz8
        fun c o c1 c2 c3 e => up c o c1 (M.kp c o c2 (fun p hp' => c3 p (by simpa using hp')) (hs₂.extBut _ _ c1 (hs₁.extBut _ _ c1 e)))
/-- one row has no more -/
theorem zn_end {k : Nat} {f0 : Value} {f1 : Bool} {arr : List Value} {Q : Fin → Shared → Prop} (hh : A.handled = none) (S : ZSep z TI TO L) (hL : L.length ≤ sizeLine)
    (hz : ZF s.heap z TI TO f0 f1) (h0 : f0 = .none ∨ ∃ T : Addr, f0 = rawInt T) (hTI : ZTI s.heap TI L) (hTO : ZTO s.heap TO arr) (ha : arr.length = L.length) (hr : ∀ p ∈ L, RowOk s.heap k p) (hk : ∃ p ∈ L, p.2.2[k]? = none)
    (hE : ∀ h' e, (∀ c o, c ≠ z → c ≠ TO → (∀ p ∈ L, c ≠ p.1) → s.heap.get? c = some o → h'.get? c = some o) → (∃ o, h'.get? e = some o ∧ o.cls = .type "StopIteration") → E (.ref e) { s with heap := h' }) :
    wpAny (model prog w) A (Builtin.«zip.__next__» ⟨[.ref z], []⟩) Q E s := by
  show wpAny _ _ (field (.ref z) 2 >>= _) _ _ _
  refine wpAny_bind (wpAny_field hz rfl (x := .bool false) rfl ?_)
  show wpAny _ _ (field (.ref z) 3 >>= _) _ _ _
  refine wpAny_bind (wpAny_field hz rfl (x := .ref TI) rfl ?_)
  refine wpAny_bind (wpAny_seqItems hTI rfl ?_)
  have hemp : (L.map fun p => Value.ref p.1).toArray.isEmpty = false := by
    cases L with
    | nil => obtain ⟨p, hp, _⟩ := hk; cases hp
    | cons a t => simp
  simp only [hemp, Bool.false_eq_true, if_false]
  try show wpAny _ _ (Builtin.SmallTypes.ownedTupleIsFree (.ref z) >>= _) _ _ _
  refine wpAny_bind (zn_free hz h0 fun b f1' h₁ hz₁ hs₁ => ?_)
  have hTO1 : ZTO h₁ TO arr := let ⟨n, e⟩ := hTO; ⟨n, hs₁.extBut _ _ S.TOz e⟩
  have hr1 : ∀ p ∈ L, RowOk h₁ k p := fun p hp => (hr p hp).keep (fun o e => hs₁.extBut _ _ (S.i_ p hp).1 e) (fun o e => hs₁.extBut _ _ (S.t_ p hp).1 e)
  cases b with
  | false =>
    simp only [Bool.false_eq_true, if_false]
    refine wpAny_bind ?_
    rw [← Array.forIn_toList]
    refine wpAny_forIn_list _ (fun rest b t => ∃ done todo h, L = done ++ todo ∧ rest = todo.map (fun p => Value.ref p.1) ∧ t = { s with heap := h } ∧ Mid h₁ h TO k done todo ∧ ∀ p ∈ done, p.2.2[k]? ≠ none) _ ?_ ?_ _ _ ⟨[], L, h₁, rfl, by simp, rfl, ⟨rfl, fun c o _ _ e => e, (fun _ hp => nomatch hp), hr1⟩, (fun _ hp => nomatch hp)⟩
    · rintro x rest b t ⟨done, todo, h, eL, er, rfl, M, hd⟩
      cases todo with
      | nil => cases er
      | cons p todo =>
        obtain ⟨rfl, rfl⟩ := List.cons.inj er
        have hp : p ∈ L := by rw [eL]; simp
        refine wpAny_bind (wpAny_holding ?_)
        show wpAny _ _ (Builtin.SmallTypes.nextOf (.ref p.1) >>= _) _ _ _
        cases hx : p.2.2[k]? with
        | some vx =>
          refine wpAny_bind (RZ.nextOf_tuple_item (s := { s with heap := h }) (M.td p (by simp)).1 (M.td p (by simp)).2 hx fun h' hi hs => wpAny_pure (wpAny_pure ?_))
          exact ⟨done ++ [p], todo, h', by rw [eL]; simp, rfl, rfl, Mid.step (eL ▸ S) M hi hs, fun q hq => by
            rcases List.mem_append.mp hq with hq | hq
            · exact hd q hq
            · rw [List.mem_singleton.mp hq, hx]; simp⟩
        | none =>
          refine wpAny_bind (RZ.nextOf_tuple_end (s := { s with heap := h }) hh (M.td p (by simp)).1 (M.td p (by simp)).2 hx fun h' e hs he => ?_)
          exact hE h' e (fun c o c1 c2 c3 x => hs _ _ (c3 p hp) (M.kp c o c2 (fun q hq => c3 q (by rw [eL]; exact hq)) (hs₁.extBut _ _ c1 x))) he
    · rintro b t ⟨done, todo, h, eL, er, rfl, M, hd⟩
      have ht : todo = [] := by
        cases todo with
        | nil => rfl
        | cons a b => cases er
      subst ht
      obtain ⟨p, hp, hx⟩ := hk
      rw [eL, List.append_nil] at hp
      exact absurd hx (hd p hp)
  | true =>
    simp only [if_true]
    refine wpAny_bind (wpAny_rule ?_)
    refine wpAny_bind (wpAny_field hz₁ rfl (x := .ref TO) rfl ?_)
    refine wpAny_bind (wpAny_setField_rec hz₁ (by simp) fun h₂ hz₂ hs₂ => ?_)
    replace hz₂ : ZF h₂ z TI TO .ellipsis f1' := hz₂
    replace hs₂ : Heap.SameBut z h₁ h₂ := hs₂
    have hTO2 : ZTO h₂ TO arr := let ⟨n, e⟩ := hTO1; ⟨n, hs₂.extBut _ _ S.TOz e⟩
    have hr2 : ∀ p ∈ L, RowOk h₂ k p := fun p hp => (hr1 p hp).keep (fun o e => hs₂.extBut _ _ (S.i_ p hp).1 e) (fun o e => hs₂.extBut _ _ (S.t_ p hp).1 e)
    refine wpAny_bind ?_
    refine wpAny_forIn_list _ (fun rest b t => ∃ done todo h ar, L = done ++ todo ∧ rest = (todo.map (fun p => Value.ref p.1)).zipIdx done.length ∧ t = { s with heap := h } ∧ Mid h₂ h TO k done todo ∧ ZTO h TO ar ∧ ar.length = L.length ∧ ∀ p ∈ done, p.2.2[k]? ≠ none) _ ?_ ?_ _ _ ⟨[], L, h₂, arr, rfl, rfl, rfl, ⟨rfl, fun c o _ _ e => e, (fun _ hp => nomatch hp), hr2⟩, hTO2, ha, (fun _ hp => nomatch hp)⟩
    · rintro x rest b t ⟨done, todo, h, ar, eL, er, rfl, M, ⟨nT, hT⟩, hl, hd⟩
      cases todo with
      | nil => cases er
      | cons p todo =>
        rw [List.map_cons, List.zipIdx_cons] at er
        obtain ⟨rfl, rfl⟩ := List.cons.inj er
        have hp : p ∈ L := by rw [eL]; simp
        refine wpAny_bind (wpAny_onRaise ?_)
        show wpAny _ _ (Builtin.SmallTypes.nextOf (.ref p.1) >>= _) _ _ _
        cases hx : p.2.2[k]? with
        | some vx =>
          refine wpAny_bind (RZ.nextOf_tuple_item (s := { s with heap := h }) (M.td p (by simp)).1 (M.td p (by simp)).2 hx fun h' hi hs => wpAny_pure ?_)
          replace hs : Heap.SameBut p.1 h h' := hs
          have hT' := hs.extBut _ _ (S.i_ p hp).2.2.symm hT
          refine wpAny_bind (wpAny_seqItems (s := { s with heap := h' }) hT' rfl ?_)
          refine wpAny_bind (wpAny_updateSeq (s := { s with heap := h' }) hT' rfl ?_)
          refine wpAny_bind (wpAny_letGo (wpAny_pure ?_))
          have M' := Mid.step (eL ▸ S) M hi hs
          have hu := Heap.get?_update_self (Obj.mapSeq (·.setIfInBounds done.length vx)) hT' rfl
          have hT2 : ZTO (h'.update TO (Obj.mapSeq (·.setIfInBounds done.length vx))) TO (ar.set done.length vx) := by
            simp only [Obj.mapSeq, List.setIfInBounds_toArray] at hu
            exact ⟨_, hu⟩
          refine ⟨done ++ [p], todo, h'.update TO (Obj.mapSeq (·.setIfInBounds done.length vx)), ar.set done.length vx, by rw [eL]; simp, by simp, rfl, ⟨?_, fun c o c1 c2 e => ?_, fun q hq => ?_, fun q hq => ?_⟩, hT2, by simpa using hl, ?_⟩
          · rw [(Heap.SameBut.update ..).1]; exact M'.sz
          · exact (Heap.SameBut.update ..).extBut _ _ c1 (M'.kp c o c1 c2 e)
          · have hq' : q ∈ L := by rw [eL]; rcases List.mem_append.mp hq with z | z <;> simp_all
            exact (M'.dn q hq).keep (fun o e => (Heap.SameBut.update ..).extBut _ _ (S.i_ q hq').2.2 e) (fun o e => (Heap.SameBut.update ..).extBut _ _ (S.t_ q hq').2 e)
          · have hq' : q ∈ L := by rw [eL]; simp [hq]
            exact (M'.td q hq).keep (fun o e => (Heap.SameBut.update ..).extBut _ _ (S.i_ q hq').2.2 e) (fun o e => (Heap.SameBut.update ..).extBut _ _ (S.t_ q hq').2 e)
          · intro q hq
            rcases List.mem_append.mp hq with hq | hq
            · exact hd q hq
            · rw [List.mem_singleton.mp hq, hx]; simp
        | none =>
          refine wpAny_bind (RZ.nextOf_tuple_end (s := { s with heap := h }) hh (M.td p (by simp)).1 (M.td p (by simp)).2 hx fun h' e hs he => ?_)
          have hzt : ZF h z TI TO .ellipsis f1' := M.kp _ _ S.TOz.symm (fun q hq => (S.i_ q (by rw [eL]; exact hq)).1.symm) hz₂
          replace hs : Heap.ExtBut p.1 h h' := hs
          have hz3 : ZF h' z TI TO .ellipsis f1' := hs _ _ (S.i_ p hp).1.symm hzt
          obtain ⟨oe, hoe, hce⟩ := he
          replace hoe : h'.get? e = some oe := hoe
          have hez : e ≠ z := fun x => by subst x; rw [hz3] at hoe; cases hoe; simp at hce
          refine wpAny_setField_rec (s := { s with heap := h' }) hz3 (by simp) fun h₃ _ hs₃ => ?_
          replace hs₃ : Heap.SameBut z h' h₃ := hs₃
          exact hE h₃ e (fun c o c1 c2 c3 x => hs₃.extBut _ _ c1 (hs _ _ (c3 p hp) (M.kp c o c2 (fun q hq => c3 q (by rw [eL]; exact hq)) (hs₂.extBut _ _ c1 (hs₁.extBut _ _ c1 x))))) ⟨oe, hs₃.extBut _ _ hez hoe, hce⟩
    · rintro b t ⟨done, todo, h, ar, eL, er, rfl, M, hT, hl, hd⟩
      have ht : todo = [] := by
        cases todo with
        | nil => rfl
        | cons a b => simp at er
      subst ht
      obtain ⟨p, hp, hx⟩ := hk
      rw [eL, List.append_nil] at hp
      exact absurd hx (hd p hp)
/-! ## its pyNext -/
theorem zn_pyNext_item {k : Nat} {f0 : Value} {f1 : Bool} {arr : List Value} {Q : Option Value → Shared → Prop} (S : ZSep z TI TO L) (hne : L ≠ []) (hL : L.length ≤ sizeLine)
    (hz : ZF s.heap z TI TO f0 f1) (h0 : f0 = .none ∨ ∃ T : Addr, f0 = rawInt T) (hTI : ZTI s.heap TI L) (hTO : ZTO s.heap TO arr) (ha : arr.length = L.length) (hr : ∀ p ∈ L, RowOk s.heap k p) (hk : ∀ p ∈ L, k < p.2.2.size)
    (hQ : ∀ h' f0' f1' arr', ZF h' z TI TO f0' f1' → (f0' = .none ∨ ∃ T : Addr, f0' = rawInt T) → ZTO h' TO arr' → arr'.length = L.length → (∀ p ∈ L, RowOk h' (k + 1) p) →
      h'.get? s.heap.objs.size = some { cls := .type "tuple", data := .seq (rv L k).toArray } → h'.objs.size = s.heap.objs.size + 1 →
      (∀ c o, c ≠ z → c ≠ TO → (∀ p ∈ L, c ≠ p.1) → s.heap.get? c = some o → h'.get? c = some o) → Q (some (.ref s.heap.objs.size)) { s with heap := h' }) :
    wpAny (model prog w) A (pyNext (.ref z)) Q E s := by
  have hT : s.TypeIs (.ref z) "zip" := ⟨_, hz, rfl⟩
  unfold pyNext
  exact wpAny_bind (wpAny_attempt (wpAny_callSpecial?_slot (name := Str.ofString "__next__") hT F.slot_zip_next
    (wpAny_call_entry F.slot_zip_next hT F.entry_zip_next
      (zn_item S hne hL hz h0 hTI hTO ha hr hk fun h' f0' f1' arr' a1 a2 a3 a4 a5 a6 a7 a8 => wpAny_pure (hQ h' f0' f1' arr' a1 a2 a3 a4 a5 a6 a7 a8)) (F.args_zip_next_1 _))))
theorem zn_pyNext_end {k : Nat} {f0 : Value} {f1 : Bool} {arr : List Value} {Q : Option Value → Shared → Prop} (hh : A.handled = none) (S : ZSep z TI TO L) (hL : L.length ≤ sizeLine)
    (hz : ZF s.heap z TI TO f0 f1) (h0 : f0 = .none ∨ ∃ T : Addr, f0 = rawInt T) (hTI : ZTI s.heap TI L) (hTO : ZTO s.heap TO arr) (ha : arr.length = L.length) (hr : ∀ p ∈ L, RowOk s.heap k p) (hk : ∃ p ∈ L, p.2.2[k]? = none)
    (hQ : ∀ h', (∀ c o, c ≠ z → c ≠ TO → (∀ p ∈ L, c ≠ p.1) → s.heap.get? c = some o → h'.get? c = some o) → Q none { s with heap := h' }) :
    wpAny (model prog w) A (pyNext (.ref z)) Q E s := by
  have hT : s.TypeIs (.ref z) "zip" := ⟨_, hz, rfl⟩
  unfold pyNext
  refine wpAny_bind (wpAny_attempt (wpAny_callSpecial?_slot (name := Str.ofString "__next__") hT F.slot_zip_next
    (wpAny_call_entry F.slot_zip_next hT F.entry_zip_next (zn_end hh S hL hz h0 hTI hTO ha hr hk fun h' e kk he => ?_) (F.args_zip_next_1 _))))
  obtain ⟨o, ho, hc⟩ := he
  refine wpAny_bind (wpAny_isInstance (T := "StopIteration") (b := true) ⟨o, ho, hc⟩ isSubtype_stop ?_)
  exact wpAny_pure (hQ _ kk)
end
end Z
set_option maxRecDepth 100000
set_option maxHeartbeats 2000000
namespace Z
open PySem PySem.Spec PyProof.Rows L2
/-! ## zip of any number of tuples: it is made -/
def mkRw : Nat → List (Addr × Array Value) → List Rw
  | _, [] => []
  | b, p :: r => (b, p.1, p.2) :: mkRw (b + 1) r
theorem mkRw_len : ∀ (b : Nat) (P : List (Addr × Array Value)), (mkRw b P).length = P.length
  | _, [] => rfl
  | b, _ :: r => congrArg (· + 1) (mkRw_len (b + 1) r)
theorem mkRw_ge : ∀ (b : Nat) (P : List (Addr × Array Value)), ∀ p ∈ mkRw b P, b ≤ p.1 ∧ p.1 < b + P.length ∧ (p.2.1, p.2.2) ∈ P
  | b, q :: r, p, hp => by
    rcases List.mem_cons.mp hp with rfl | hp
    · exact ⟨Nat.le_refl _, by simp, by simp⟩
    · obtain ⟨h1, h2, h3⟩ := mkRw_ge (b + 1) r p hp
      have h1 : (b + 1 : Nat) ≤ p.1 := h1
      have h2 : p.1 < b + 1 + r.length := h2
      exact ⟨Nat.le_of_succ_le h1, (by show p.1 < b + (r.length + 1); rwa [Nat.add_comm r.length 1, ← Nat.add_assoc]), List.mem_cons_of_mem _ h3⟩
theorem mkRw_nd : ∀ (b : Nat) (P : List (Addr × Array Value)), ((mkRw b P).map (·.1)).Nodup
  | _, [] => List.nodup_nil
  | b, p :: r => by
    refine List.nodup_cons.mpr ⟨fun h => ?_, mkRw_nd (b + 1) r⟩
    obtain ⟨q, hq, e⟩ := List.mem_map.mp h
    have this : b + 1 ≤ q.1 := (mkRw_ge (b + 1) r q hq).1
    rw [e] at this
    exact Nat.not_succ_le_self _ this
theorem mkRw_snd : ∀ (b : Nat) (P : List (Addr × Array Value)), (mkRw b P).map (·.2) = P
  | _, [] => rfl
  | b, p :: r => by simp [mkRw, mkRw_snd (b + 1) r]
theorem typeCall_zip_n (us : List Value) : checkTypeCall "zip" ⟨us, []⟩ = pure () := by kernel_rfl
theorem newCall_zip_n : ∀ us : List Value, us.length ≤ 6 → checkBuiltinCall "zip.__new__" ⟨.type "zip" :: us, []⟩ = pure ()
  | [], _ => by kernel_rfl
  | [_], _ => by kernel_rfl
  | [_, _], _ => by kernel_rfl
  | [_, _, _], _ => by kernel_rfl
  | [_, _, _, _], _ => by kernel_rfl
  | [_, _, _, _, _], _ => by kernel_rfl
  | [_, _, _, _, _, _], _ => by kernel_rfl
  | _ :: _ :: _ :: _ :: _ :: _ :: _ :: _, h => absurd h (by simp)
theorem args_object_init_n (obj : Value) (us : List Value) : argsOk "object.__init__" ⟨obj :: us, []⟩ := by
  unfold argsOk; rw [signature?_of (id := "object.__init__") (n := ['_', '_', 't', 'i', 'n', 'i', '_', '_']) (o := ['t', 'c', 'e', 'j', 'b', 'o']) (by kernel_rfl) PySem.F.owner_object]; kernel_rfl
section
variable {prog : Program} {w : World} {A : Around} {E : Value → Shared → Prop} {s : Shared}
theorem iterAll_tup (P : List (Addr × Array Value)) {Q : List Value → Shared → Prop} (hP : ∀ p ∈ P, s.heap.IsTuple p.1 p.2)
    (hQ : ∀ h', h'.objs.size = s.heap.objs.size + P.length → (∀ c o, s.heap.get? c = some o → h'.get? c = some o) → (∀ p ∈ mkRw s.heap.objs.size P, RowOk h' 0 p) →
      Q ((mkRw s.heap.objs.size P).map fun p => Value.ref p.1) { s with heap := h' }) :
    wpAny (model prog w) A (Builtin.SmallTypes.iterAll (P.map fun p => Value.ref p.1)) Q E s := by
  unfold Builtin.SmallTypes.iterAll
  refine wpAny_bind ?_
  refine wpAny_forIn_list _ (fun rest b t => ∃ done todo h, P = done ++ todo ∧ rest = todo.map (fun p => Value.ref p.1) ∧ b = ((mkRw s.heap.objs.size done).map fun p => Value.ref p.1).toArray ∧ t = { s with heap := h } ∧
    h.objs.size = s.heap.objs.size + done.length ∧ (∀ c o, s.heap.get? c = some o → h.get? c = some o) ∧ ∀ p ∈ mkRw s.heap.objs.size done, RowOk h 0 p) _ ?_ ?_ _ _ ⟨[], P, s.heap, rfl, rfl, rfl, rfl, rfl, fun _ _ e => e, (fun _ hp => nomatch hp)⟩
  · rintro x rest b t ⟨done, todo, h, eP, er, rfl, rfl, hsz, hk, hr⟩
    cases todo with
    | nil => cases er
    | cons p todo =>
      obtain ⟨rfl, rfl⟩ := List.cons.inj er
      have hp : p ∈ P := by rw [eP]; simp
      have ht : h.IsTuple p.1 p.2 := (hP p hp).at fun o e => hk _ o e
      have app : ∀ (b : Nat) (d : List (Addr × Array Value)), mkRw b (d ++ [p]) = mkRw b d ++ [(b + d.length, p.1, p.2)] := by
        intro b d
        induction d generalizing b with
        | nil => rfl
        | cons q d ih => simp [mkRw, ih, Nat.add_assoc, Nat.add_comm 1]
      refine wpAny_bind (wpAny_holding (wpAny_pyIter_tuple (s := { s with heap := h }) ht (wpAny_pure ?_)))
      have hpush : ∀ c o, h.get? c = some o → (h.push { cls := .type "tuple_iterator", data := .fields #[.ref p.1, .int 0 0] }).get? c = some o := fun c o e => Heap.get?_push_of_some _ e
      refine ⟨done ++ [p], todo, h.push { cls := .type "tuple_iterator", data := .fields #[.ref p.1, .int 0 0] }, by rw [eP]; simp, rfl, ?_, rfl, ?_, fun c o e => hpush c o (hk c o e), fun q hq => ?_⟩
      · rw [app, ← hsz]; simp
      · rw [Heap.size_push, hsz, List.length_append]; rfl
      · rw [app] at hq
        rcases List.mem_append.mp hq with hq | hq
        · exact (hr q hq).keep (fun o e => hpush _ _ e) (fun o e => hpush _ _ e)
        · rw [List.mem_singleton.mp hq, ← hsz]
          exact ⟨⟨_, Heap.get?_push_size _ rfl, rfl, rfl⟩, ht.at fun o e => hpush _ _ e⟩
  · rintro b t ⟨done, todo, h, eP, er, rfl, rfl, hsz, hk, hr⟩
    have ht : todo = [] := by
      cases todo with
      | nil => rfl
      | cons a b => cases er
    subst ht
    rw [List.append_nil] at eP
    subst eP
    refine wpAny_pure ?_
    simpa using hQ h hsz hk hr
/-- what a zip of tuples is when it is made -/
structure ZNew (s : Shared) (h' : Heap) (P : List (Addr × Array Value)) : Prop where
  z : ZF h' (s.heap.objs.size + P.length + 2) (s.heap.objs.size + P.length) (s.heap.objs.size + P.length + 1) .none false
  ti : ZTI h' (s.heap.objs.size + P.length) (mkRw s.heap.objs.size P)
  to : ZTO h' (s.heap.objs.size + P.length + 1) (P.map fun _ => Value.none)
  r : ∀ p ∈ mkRw s.heap.objs.size P, RowOk h' 0 p
  sz : h'.objs.size = s.heap.objs.size + P.length + 3
  kp : ∀ c o, s.heap.get? c = some o → h'.get? c = some o
theorem meets_zip_n (P : List (Addr × Array Value)) (hn : P.length ≤ sizeLine) :
    Meets (Builtin.«zip.__new__» ⟨.type "zip" :: P.map fun p => Value.ref p.1, []⟩) (fun _ R s => (∀ p ∈ P, s.heap.IsTuple p.1 p.2) ∧
      ∀ h', ZNew s h' P → R (.ok (.ret (.ref (s.heap.objs.size + P.length + 2)))) { s with heap := h' }) :=
  .of_wp fun prog w A R s h => by
    obtain ⟨hp, g, d, tk, os⟩ := s
    obtain ⟨h1, h⟩ := h
    have hsub := sub_zip
    have q1 : ∀ {A' : Around} {E : Value → Shared → Prop} {Q : List Value → Shared → Prop}, (∀ h', h'.objs.size = hp.objs.size + P.length → (∀ c o, hp.get? c = some o → h'.get? c = some o) → (∀ p ∈ mkRw hp.objs.size P, RowOk h' 0 p) →
      Q ((mkRw hp.objs.size P).map fun p => Value.ref p.1) ⟨h', g, d, tk, os⟩) → wpAny (model prog w) A' (Builtin.SmallTypes.iterAll (P.map fun p => Value.ref p.1)) Q E ⟨hp, g, d, tk, os⟩ :=
      fun q => iterAll_tup (s := ⟨hp, g, d, tk, os⟩) P h1 q
    wp_walk using q1
    intro h' hsz hk hr
    have hm : (P.map fun p => Value.ref p.1).length = P.length := List.length_map _
    have hl : ((mkRw hp.objs.size P).map fun p => Value.ref p.1).length = P.length := by rw [List.length_map, mkRw_len]
    refine wpAny_bind (wpAny_newTuple ?_ (by rw [hl]; exact hn))
    refine wpAny_bind (wpAny_newTuple ?_ (by rw [List.length_map, hl]; exact hn))
    refine wpAny_bind ?_
    unfold Builtin.SmallTypes.newRecord
    refine wpAny_newObj_type ?_ (by show (5 : Nat) ≤ sizeLine + 2; decide)
    refine wpAny_pure ⟨_, rfl, ?_⟩
    have z1 : (h'.push { cls := .type "tuple", data := .seq ((mkRw hp.objs.size P).map fun p => Value.ref p.1).toArray }).objs.size = hp.objs.size + P.length + 1 := by rw [Heap.size_push, hsz]
    have z2 : ((h'.push { cls := .type "tuple", data := .seq ((mkRw hp.objs.size P).map fun p => Value.ref p.1).toArray }).push { cls := .type "tuple", data := .seq (((mkRw hp.objs.size P).map fun p => Value.ref p.1).map fun _ => Value.none).toArray }).objs.size = hp.objs.size + P.length + 2 := by rw [Heap.size_push, z1]
    have key := h _ (⟨?_, ?_, ?_, ?_, ?_, ?_⟩ : ZNew ⟨hp, g, d, tk, os⟩ (((h'.push { cls := .type "tuple", data := .seq ((mkRw hp.objs.size P).map fun p => Value.ref p.1).toArray }).push { cls := .type "tuple", data := .seq (((mkRw hp.objs.size P).map fun p => Value.ref p.1).map fun _ => Value.none).toArray }).push { cls := .type "zip", data := .fields #[.none, .bool false, .bool false, .ref h'.objs.size, .ref (h'.push { cls := .type "tuple", data := .seq ((mkRw hp.objs.size P).map fun p => Value.ref p.1).toArray }).objs.size] }) P)
    · show R (.ok (.ret (.ref ((h'.push { cls := .type "tuple", data := .seq ((mkRw hp.objs.size P).map fun p => Value.ref p.1).toArray }).push { cls := .type "tuple", data := .seq (((mkRw hp.objs.size P).map fun p => Value.ref p.1).map fun _ => Value.none).toArray }).objs.size))) _
      rw [z2]
      exact key
    · have := Heap.get?_push_size ((h'.push { cls := .type "tuple", data := .seq ((mkRw hp.objs.size P).map fun p => Value.ref p.1).toArray }).push { cls := .type "tuple", data := .seq (((mkRw hp.objs.size P).map fun p => Value.ref p.1).map fun _ => Value.none).toArray }) (o := { cls := .type "zip", data := .fields #[.none, .bool false, .bool false, .ref h'.objs.size, .ref (h'.push { cls := .type "tuple", data := .seq ((mkRw hp.objs.size P).map fun p => Value.ref p.1).toArray }).objs.size] }) rfl
      rw [z2] at this
      rw [z1, hsz] at this
      rw [z1, hsz]
      exact this
    · refine Heap.get?_push_of_some _ (Heap.get?_push_of_some _ ?_)
      show (h'.push _).get? (hp.objs.size + P.length) = _
      rw [← hsz]
      exact Heap.get?_push_size _ rfl
    · refine ⟨0, Heap.get?_push_of_some _ ?_⟩
      show Heap.get? _ (hp.objs.size + P.length + 1) = _
      rw [← z1]
      have := Heap.get?_push_size (h'.push { cls := .type "tuple", data := .seq ((mkRw hp.objs.size P).map fun p => Value.ref p.1).toArray }) (o := { cls := .type "tuple", data := .seq (((mkRw hp.objs.size P).map fun p => Value.ref p.1).map fun _ => Value.none).toArray }) rfl
      rw [this]
      have e : (((mkRw hp.objs.size P).map fun p => Value.ref p.1).map fun _ => Value.none) = P.map fun _ => Value.none := by
        rw [List.map_const', List.map_const', hl]
      rw [e]
    · exact fun p hp' => (hr p hp').keep (fun o e => Heap.get?_push_of_some _ (Heap.get?_push_of_some _ (Heap.get?_push_of_some _ e))) (fun o e => Heap.get?_push_of_some _ (Heap.get?_push_of_some _ (Heap.get?_push_of_some _ e)))
    · show Array.size _ = hp.objs.size + P.length + 3
      rw [Heap.size_push, z2]
    · exact fun c o e => Heap.get?_push_of_some _ (Heap.get?_push_of_some _ (Heap.get?_push_of_some _ (hk c o e)))
theorem zip_begins_n (P : List (Addr × Array Value)) {Q : Value → Shared → Prop} (hn : P.length ≤ 6) (hP : ∀ p ∈ P, s.heap.IsTuple p.1 p.2) (h : ∀ h', ZNew s h' P → Q (.ref (s.heap.objs.size + P.length + 2)) { s with heap := h' }) :
    wpAny (model prog w) A (call (.type "zip") (P.map fun p => Value.ref p.1)) Q E s := by
  refine callType_new PySem.F.called_zip (by decide) (typeCall_zip_n _) (newCall_zip_n _ (by rw [List.length_map]; exact hn)) (fun obj => args_object_init_n obj _) PySem.F.entry_zip_new
    (meets_zip_n P (by rw [sizeLine_eq]; omega)) ⟨hP, fun h' N => ⟨⟨_, N.z, rfl⟩, h h' N⟩⟩
end
end Z
set_option maxRecDepth 100000
set_option maxHeartbeats 2000000
namespace Z
open PySem PySem.Spec PyProof.Rows L2
/-! ## list(zip(*rows)) -/
theorem mkRw_sep {b : Nat} {P : List (Addr × Array Value)} (hb : ∀ p ∈ P, p.1 < b) : ZSep (b + P.length + 2) (b + P.length) (b + P.length + 1) (mkRw b P) where
  TIz := by simp
  TOz := by simp
  TITO := by simp
  nd := mkRw_nd b P
  i_ := fun p hp => by
    have h2 : p.1 < b + P.length := (mkRw_ge b P p hp).2.1
    exact ⟨Nat.ne_of_lt (Nat.lt_add_right 2 h2), Nat.ne_of_lt h2, Nat.ne_of_lt (Nat.lt_succ_of_lt h2)⟩
  t_ := fun p hp => by
    have h2 : p.2.1 < b := hb _ (mkRw_ge b P p hp).2.2
    have h3 : p.2.1 < b + P.length := Nat.lt_add_right _ h2
    exact ⟨Nat.ne_of_lt (Nat.lt_add_right 2 h3), Nat.ne_of_lt (Nat.lt_succ_of_lt h3)⟩
  ti := fun p hp q hq => by
    have h2 : p.2.1 < b := hb _ (mkRw_ge b P p hp).2.2
    exact Nat.ne_of_lt (Nat.lt_of_lt_of_le h2 (mkRw_ge b P q hq).1)
/-- the zip after i turns -/
structure ZAt (h : Heap) (z TI TO : Addr) (L : List Rw) (i : Nat) : Prop where
  z : ∃ f0 f1, ZF h z TI TO f0 f1 ∧ (f0 = .none ∨ ∃ T : Addr, f0 = rawInt T)
  ti : ZTI h TI L
  to : ∃ arr, ZTO h TO arr ∧ arr.length = L.length
  r : ∀ p ∈ L, RowOk h i p
theorem ZAt.keep {h h' : Heap} {z TI TO : Addr} {L : List Rw} {i : Nat} {S : Addr} (x : ZAt h z TI TO L i) (hS : S ≠ z ∧ S ≠ TI ∧ S ≠ TO ∧ ∀ p ∈ L, S ≠ p.1 ∧ S ≠ p.2.1) (k : ∀ c o, c ≠ S → h.get? c = some o → h'.get? c = some o) : ZAt h' z TI TO L i :=
  ⟨let ⟨f0, f1, e, q⟩ := x.z; ⟨f0, f1, k _ _ hS.1.symm e, q⟩, k _ _ hS.2.1.symm x.ti, let ⟨a, ⟨n, e⟩, q⟩ := x.to; ⟨a, ⟨n, k _ _ hS.2.2.1.symm e⟩, q⟩,
    fun p hp => (x.r p hp).keep (fun o e => k _ _ (hS.2.2.2 p hp).1.symm e) (fun o e => k _ _ (hS.2.2.2 p hp).2.symm e)⟩
/-- the tuples made so far -/
structure ZMade (lo : Addr) (h : Heap) (L : List Rw) (as : List Addr) : Prop where
  rise : as.Pairwise (· < ·)
  above : ∀ a ∈ as, lo < a
  at_ : ∀ (j : Nat) (a : Addr), as[j]? = some a → h.get? a = some { cls := .type "tuple", data := .seq (rv L j).toArray }
theorem ZMade.there {lo : Addr} {h : Heap} {L : List Rw} {as : List Addr} (g : ZMade lo h L as) {a : Addr} (ha : a ∈ as) : a < h.objs.size := by
  obtain ⟨j, hj⟩ := List.mem_iff_getElem?.mp ha
  exact Heap.lt_size (g.at_ j a hj)
section
variable {prog : Program} {w : World} {A : Around} {s : Shared} {R : Result → Shared → Prop} {z TI TO S : Addr} {L : List Rw} {n : Nat}
theorem zn_loop (hh : A.handled = none) (Sp : ZSep z TI TO L) (hS : S ≠ z ∧ S ≠ TI ∧ S ≠ TO ∧ ∀ p ∈ L, S ≠ p.1 ∧ S ≠ p.2.1) (hne : L ≠ []) (hL : L.length ≤ sizeLine) (hn : n ≤ sizeLine) (hlt : ∀ p ∈ L, n ≤ p.2.2.size) (hend : ∃ p ∈ L, p.2.2.size = n) (res : Value) {h₁ : Heap} {lo : Addr}
    (hlo : S ≤ lo ∧ z ≤ lo ∧ TO ≤ lo ∧ ∀ p ∈ L, p.1 ≤ lo)
    (hR : ∀ h' tk acc c as, (∀ b o, b ≠ S → b ≠ z → b ≠ TO → (∀ p ∈ L, b ≠ p.1) → h₁.get? b = some o → h'.get? b = some o) → h'.get? S = some { cls := .type "list", dict := none, data := .seq acc c, slots := #[] } → as.length = n → ZMade lo h' L as →
      acc.toList = as.map Value.ref → R (.ok (.ret res)) { s with heap := h', toks := tk }) :
    ∀ (k i : Nat) (h : Heap) (tk c : Nat) (acc : Array Value) (as : List Addr), n - i = k → i ≤ n → ZAt h z TI TO L i → (∀ b o, b ≠ S → b ≠ z → b ≠ TO → (∀ p ∈ L, b ≠ p.1) → h₁.get? b = some o → h.get? b = some o) →
      h.get? S = some { cls := .type "list", dict := none, data := .seq acc c, slots := #[] } → acc.toList = as.map Value.ref → as.length = i → ZMade lo h L as → lo < h.objs.size →
      codeAny (model prog w) A (.builtin "list.extend.loop" ⟨[.ref S, .ref z, res], []⟩) R { s with heap := h, toks := tk } := by
  intro k
  induction k with
  | zero =>
    intro i h tk c acc as hk hi hst hkeep hSt hacc hal hG hIs
    have hin : i = n := by omega
    subst hin
    obtain ⟨⟨f0, f1, hz, h0⟩, hti, ⟨arr, hto, ha⟩, hr⟩ := hst
    refine codeAny_builtin PySem.F.entry_extend_loop ?_
    rw [Around.under_plainId PySem.F.plain_extend_loop _]
    show wpAny _ A.in1 (pyNext (.ref z) >>= _) _ _ _
    refine wpAny_bind (zn_pyNext_end (s := { s with heap := h, toks := tk }) (A := A.in1) hh Sp hL hz h0 hti hto ha hr (let ⟨p, hp, e⟩ := hend; ⟨p, hp, by rw [Array.getElem?_eq_none (by omega)]⟩) fun h' he => ?_)
    have lo_ne : ∀ b, lo < b → b ≠ z ∧ b ≠ TO ∧ ∀ p ∈ L, b ≠ p.1 := fun b hb => ⟨Nat.ne_of_gt (Nat.lt_of_le_of_lt hlo.2.1 hb), Nat.ne_of_gt (Nat.lt_of_le_of_lt hlo.2.2.1 hb), fun p hp => Nat.ne_of_gt (Nat.lt_of_le_of_lt (hlo.2.2.2 p hp) hb)⟩
    refine wpAny_pure (hR h' tk acc c as (fun b o h1 h2 h3 h4 e => he b o h2 h3 h4 (hkeep b o h1 h2 h3 h4 e)) (he S _ hS.1 hS.2.2.1 (fun p hp => (hS.2.2.2 p hp).1) hSt) hal ⟨hG.rise, hG.above, fun j a hj => ?_⟩ hacc)
    obtain ⟨l1, l2, l3⟩ := lo_ne a (hG.above a (List.mem_of_getElem? hj))
    exact he a _ l1 l2 l3 (hG.at_ j a hj)
  | succ k ih =>
    intro i h tk c acc as hk hi hst hkeep hSt hacc hal hG hIs
    have hin : i < n := by omega
    have hsz : acc.size = i := by rw [← Array.length_toList, hacc, List.length_map, hal]
    obtain ⟨⟨f0, f1, hz, h0⟩, hti, ⟨arr, hto, ha⟩, hr⟩ := hst
    refine codeAny_builtin PySem.F.entry_extend_loop ?_
    rw [Around.under_plainId PySem.F.plain_extend_loop _]
    show wpAny _ A.in1 (pyNext (.ref z) >>= _) _ _ _
    refine wpAny_bind (zn_pyNext_item (s := { s with heap := h, toks := tk }) (A := A.in1) Sp hne hL hz h0 hti hto ha hr (fun p hp => Nat.lt_of_lt_of_le hin (hlt p hp)) fun h' f0' f1' arr' b1 b2 b3 b4 b5 ht hz' hkp => ?_)
    dsimp only at ht hz' hkp ⊢
    have hTIk : ZTI h' TI L := hkp _ _ Sp.TIz Sp.TITO (fun p hp => (Sp.i_ p hp).2.1.symm) hti
    have hS' := hkp S _ hS.1 hS.2.2.1 (fun p hp => (hS.2.2.2 p hp).1) hSt
    have up : ∀ b o, b ≠ S → h'.get? b = some o → (h'.update S (Obj.mapSeq (·.push (Value.ref h.objs.size)))).get? b = some o := fun b o hb e => (Heap.get?_update_other _ _ (Ne.symm hb)).trans e
    have hSl : S < h.objs.size := Heap.lt_size hSt
    have lo_ne : ∀ b, lo < b → b ≠ S ∧ b ≠ z ∧ b ≠ TO ∧ ∀ p ∈ L, b ≠ p.1 := fun b hb => ⟨Nat.ne_of_gt (Nat.lt_of_le_of_lt hlo.1 hb), Nat.ne_of_gt (Nat.lt_of_le_of_lt hlo.2.1 hb), Nat.ne_of_gt (Nat.lt_of_le_of_lt hlo.2.2.1 hb), fun p hp => Nat.ne_of_gt (Nat.lt_of_le_of_lt (hlo.2.2.2 p hp) hb)⟩
    have st' : ZAt h' z TI TO L (i + 1) := ⟨⟨f0', f1', b1, b2⟩, hTIk, ⟨arr', b3, b4⟩, b5⟩
    show wpAny _ A.in1 (updateSeq S (·.push (Value.ref h.objs.size)) >>= _) _ _ _
    refine wpAny_bind ?_
    refine wpAny_updateSeq hS' rfl (wpAny_pure ⟨plainId_quiet PySem.F.plain_extend_loop _, ih (i + 1) _ tk _ (acc.push (Value.ref h.objs.size)) (as ++ [h.objs.size]) (by omega) hin (st'.keep hS up)
      (fun b o h1 h2 h3 h4 e => up b o h1 (hkp b o h2 h3 h4 (hkeep b o h1 h2 h3 h4 e))) (Heap.get?_update_self _ hS' rfl) (by rw [Array.toList_push, hacc, List.map_append]; rfl) (by rw [List.length_append, hal]; rfl) ⟨?_, ?_, ?_⟩ ?_⟩) (by rw [hsz]; omega) (by show (acc.push (Value.ref h.objs.size)).size ≤ sizeLine + 1; rw [Array.size_push, hsz]; omega)
    · refine List.pairwise_append.mpr ⟨hG.rise, List.pairwise_singleton _ _, fun a ha b hb => ?_⟩
      rw [List.mem_singleton.mp hb]
      exact hG.there ha
    · intro a ha
      rcases List.mem_append.mp ha with ha | ha
      · exact hG.above a ha
      · rw [List.mem_singleton.mp ha]; exact hIs
    · intro j b hj
      rcases Nat.lt_trichotomy j as.length with h1 | h1 | h1
      · rw [List.getElem?_append_left h1] at hj
        obtain ⟨l1, l2, l3, l4⟩ := lo_ne b (hG.above b (List.mem_of_getElem? hj))
        exact up b _ l1 (hkp b _ l2 l3 l4 (hG.at_ j b hj))
      · subst h1
        have hb : h.objs.size = b := by simpa using hj
        subst hb
        subst hal
        exact up _ _ (Nat.ne_of_gt hSl) ht
      · have hnone : (as ++ [h.objs.size])[j]? = none := List.getElem?_eq_none (by rw [List.length_append, List.length_singleton]; omega)
        rw [hnone] at hj; cases hj
    · have e : (h'.update S (Obj.mapSeq (·.push (Value.ref h.objs.size)))).get? h.objs.size = _ := up _ _ (Nat.ne_of_gt hSl) ht
      exact Nat.lt_trans hIs (Heap.lt_size e)
end
end Z
set_option maxRecDepth 100000
set_option maxHeartbeats 2000000
namespace Z
open PySem PySem.Spec PyProof.Rows L2
theorem zip_nolen : typeLookup (.type "zip") "__len__" = pure none := by rw [typeLookup_type, builtinLookup_eq_fast]; kernel_rfl
theorem zip_nohint : typeLookup (.type "zip") "__length_hint__" = pure none := by rw [typeLookup_type, builtinLookup_eq_fast]; kernel_rfl
section
variable {prog : Program} {w : World} {A : Around} {E : Value → Shared → Prop} {s : Shared} {z TI TO : Addr} {L : List Rw} {n : Nat}
theorem zn_extend {R : Result → Shared → Prop} (hh : A.handled = none) (Sp : ZSep z TI TO L) (S : Addr) (hS : S ≠ z ∧ S ≠ TI ∧ S ≠ TO ∧ ∀ p ∈ L, S ≠ p.1 ∧ S ≠ p.2.1) (hne : L ≠ []) (hL : L.length ≤ sizeLine) (hn : n ≤ sizeLine) (hlt : ∀ p ∈ L, n ≤ p.2.2.size) (hend : ∃ p ∈ L, p.2.2.size = n) (res : Value)
    (hlo : z ≤ S ∧ TO ≤ S ∧ ∀ p ∈ L, p.1 ≤ S) (hz : ZF s.heap z TI TO .none false) (hZ : ZAt s.heap z TI TO L 0) (c₀ : Nat) (hSt : s.heap.get? S = some { cls := .type "list", data := .seq #[] c₀ })
    (hR : ∀ h' tk acc c as, (∀ b o, b ≠ S → b ≠ z → b ≠ TO → (∀ p ∈ L, b ≠ p.1) → s.heap.get? b = some o → h'.get? b = some o) → h'.get? S = some { cls := .type "list", dict := none, data := .seq acc c, slots := #[] } → as.length = n → ZMade S h' L as →
      acc.toList = as.map Value.ref → R (.ok (.ret res)) { s with heap := h', toks := tk }) :
    wpAny (model prog w) A.in1 (Builtin.List.listExtendWith (.ref S) (.ref z) res)
      (fun fin s' => match fin with | .done f => R (.ok f) s' | .again c' => c'.quiet = true ∧ codeAny (model prog w) A c' R s') (fun e s' => R (.error e) s') s := by
  have hT : s.TypeIs (.ref z) "zip" := ⟨_, hz, rfl⟩
  have hSl : S < s.heap.objs.size := Heap.lt_size hSt
  have key : ∀ (h : Heap) (c₁ : Nat), (∀ b o, b ≠ S → s.heap.get? b = some o → h.get? b = some o) →
      h.get? S = some { cls := .type "list", data := .seq #[] c₁ } → codeAny (model prog w) A (.builtin "list.extend.loop" ⟨[.ref S, .ref z, res], []⟩) R { s with heap := h } := by
    intro h c₁ hk hS₁
    exact zn_loop (s := s) (h₁ := s.heap) (lo := S) hh Sp hS hne hL hn hlt hend res ⟨Nat.le_refl _, hlo.1, hlo.2.1, hlo.2.2⟩ hR n 0 h s.toks c₁ #[] [] (Nat.sub_zero _) (Nat.zero_le _) (hZ.keep hS hk) (fun b o h1 _ _ _ e => hk b o h1 e) hS₁ rfl rfl
      ⟨List.Pairwise.nil, (fun _ ha => nomatch ha), (fun j a hj => by simp at hj)⟩ (Heap.lt_size hS₁)
  unfold Builtin.List.listExtendWith
  refine wpAny_bind (wpAny_typeOf hT ?_)
  have h1 : Builtin.List.listSameRef (.ref S) (.ref z) = false := by simp [Builtin.List.listSameRef, hS.1]
  have h2 : (Value.type "zip" == Value.type "list") = false := by decide
  have h3 : (Value.type "zip" == Value.type "tuple") = false := by decide
  simp only [h1, h2, h3, Bool.or_false, Bool.false_eq_true, if_false]
  refine wpAny_bind (wpAny_pyIter_zip hz ?_)
  refine wpAny_bind (wpAny_holding ?_)
  unfold Builtin.List.listLengthHint
  refine wpAny_bind (wpAny_specialOf hT zip_nolen ?_)
  show wpAny _ A.in1 (specialOf (Value.ref z) (Str.ofString "__length_hint__") >>= _) _ _ _
  refine wpAny_bind (wpAny_specialOf hT zip_nohint ?_)
  refine wpAny_pure ?_
  refine wpAny_ite_split (fun _ => ?_) (fun _ => wpAny_pure ⟨plainId_quiet PySem.F.plain_extend_loop _, key _ c₀ (fun b o _ e => e) hSt⟩)
  refine wpAny_bind (wpAny_rule ?_)
  refine wpAny_bind ?_
  show wpAny _ _ (updateSeq S (·.push .none) >>= fun _ => updateSeq S (·.pop)) _ _ _
  refine wpAny_bind (wpAny_updateSeq hSt rfl ?_)
  have hS₂ := Heap.get?_update_self (Obj.mapSeq (·.push Value.none)) hSt rfl
  refine wpAny_updateSeq (hz := by seq_fits) hS₂ rfl ?_
  have hS₃ := Heap.get?_update_self (Obj.mapSeq (·.pop)) hS₂ rfl
  refine wpAny_pure ⟨plainId_quiet PySem.F.plain_extend_loop _, key _ _ (fun b o hb e => ?_) hS₃⟩
  exact (Heap.get?_update_other _ _ (Ne.symm hb)).trans ((Heap.get?_update_other _ _ (Ne.symm hb)).trans e)
theorem zn_init {R : Result → Shared → Prop} (hh : A.handled = none) (Sp : ZSep z TI TO L) (S : Addr) (hS : S ≠ z ∧ S ≠ TI ∧ S ≠ TO ∧ ∀ p ∈ L, S ≠ p.1 ∧ S ≠ p.2.1) (hne : L ≠ []) (hL : L.length ≤ sizeLine) (hn : n ≤ sizeLine) (hlt : ∀ p ∈ L, n ≤ p.2.2.size) (hend : ∃ p ∈ L, p.2.2.size = n)
    (hlo : z ≤ S ∧ TO ≤ S ∧ ∀ p ∈ L, p.1 ≤ S) (hz : ZF s.heap z TI TO .none false) (hZ : ZAt s.heap z TI TO L 0) (hSt : s.heap.get? S = some { cls := .type "list", data := .seq #[] })
    (hR : ∀ h' tk acc c as, (∀ b o, b ≠ S → b ≠ z → b ≠ TO → (∀ p ∈ L, b ≠ p.1) → s.heap.get? b = some o → h'.get? b = some o) → h'.get? S = some { cls := .type "list", dict := none, data := .seq acc c, slots := #[] } → as.length = n → ZMade S h' L as →
      acc.toList = as.map Value.ref → R (.ok (.ret .none)) { s with heap := h', toks := tk }) :
    wpAny (model prog w) A.in1 (Builtin.«list.__init__» ⟨[.ref S, .ref z], []⟩)
      (fun fin s' => match fin with | .done f => R (.ok f) s' | .again c' => c'.quiet = true ∧ codeAny (model prog w) A c' R s') (fun e s' => R (.error e) s') s := by
  show wpAny _ _ (do let old ← Builtin.List.listItems (.ref S); Builtin.List.listUpdate (.ref S) (fun _ => #[]); letGo old.toList.reverse; Builtin.List.listExtendWith (.ref S) (.ref z) .none) _ _ s
  refine wpAny_bind ?_
  unfold Builtin.List.listItems
  refine wpAny_bind (wpAny_seqItems hSt rfl (wpAny_pure ?_))
  show wpAny _ _ (updateSeq S (fun _ => #[]) >>= fun _ => letGo (#[] : Array Value).toList.reverse >>= fun _ => Builtin.List.listExtendWith (.ref S) (.ref z) .none) _ _ s
  refine wpAny_bind (wpAny_updateSeq hSt rfl ?_)
  have hS₂ := Heap.get?_update_self (Obj.mapSeq (fun _ => (#[] : Array Value))) hSt rfl
  have oth : ∀ b o, b ≠ S → s.heap.get? b = some o → (s.heap.update S (Obj.mapSeq (fun _ => (#[] : Array Value)))).get? b = some o :=
    fun b o hb e => (Heap.get?_update_other _ _ (Ne.symm hb)).trans e
  refine wpAny_bind (wpAny_letGo ?_)
  refine zn_extend hh Sp S hS hne hL hn hlt hend .none hlo (oth _ _ hS.1.symm hz) (hZ.keep hS oth) _ hS₂ (fun h' tk acc c as hk hS' hl hG hacc => ?_)
  exact hR h' tk acc c as (fun b o h1 h2 h3 h4 e => hk b o h1 h2 h3 h4 (oth b o h1 e)) hS' hl hG hacc
theorem zn_call {Q : Value → Shared → Prop} (hh : A.handled = none) (Sp : ZSep z TI TO L) (hne : L ≠ []) (hL : L.length ≤ sizeLine) (hn : n ≤ sizeLine) (hlt : ∀ p ∈ L, n ≤ p.2.2.size) (hend : ∃ p ∈ L, p.2.2.size = n) (hz : ZF s.heap z TI TO .none false) (hZ : ZAt s.heap z TI TO L 0)
    (hQ : ∀ h' tk acc c as, (∀ b o, b ≠ z → b ≠ TO → (∀ p ∈ L, b ≠ p.1) → s.heap.get? b = some o → h'.get? b = some o) → h'.get? s.heap.objs.size = some { cls := .type "list", dict := none, data := .seq acc c, slots := #[] } → as.length = n → ZMade s.heap.objs.size h' L as →
      acc.toList = as.map Value.ref → Q (.ref s.heap.objs.size) { s with heap := h', toks := tk }) :
    wpAny (model prog w) A (call (.type "list") [.ref z]) Q E s := by
  refine callType_codes (Q₁ := fun obj s₁ => obj = .ref s.heap.objs.size ∧ s₁ = { s with heap := s.heap.push { cls := .type "list", data := .seq #[] } }) PySem.F.called_list (PySem.F.typeCall_list_1 _) PySem.F.entry_list_init
    (code_list_new _ ⟨rfl, rfl⟩) fun obj s₁ h₁ => ?_
  obtain ⟨rfl, rfl⟩ := h₁
  have hS : (s.heap.push { cls := .type "list", data := .seq #[] }).get? s.heap.objs.size = some { cls := .type "list", data := .seq #[] } := Heap.get?_push_size _ rfl
  have lz : z < s.heap.objs.size := Heap.lt_size hz
  have lTI : TI < s.heap.objs.size := Heap.lt_size hZ.ti
  have lTO : TO < s.heap.objs.size := let ⟨_, ⟨_, e⟩, _⟩ := hZ.to; Heap.lt_size e
  have lr : ∀ p ∈ L, p.1 < s.heap.objs.size ∧ p.2.1 < s.heap.objs.size := fun p hp => ⟨let ⟨o, e, _⟩ := (hZ.r p hp).1; Heap.lt_size e, let ⟨o, e, _⟩ := (hZ.r p hp).2; Heap.lt_size e⟩
  have pu : ∀ b o, s.heap.get? b = some o → (s.heap.push { cls := .type "list", data := .seq #[] }).get? b = some o := fun b o e => Heap.get?_push_of_some _ e
  refine ⟨⟨_, hS, rfl⟩, PySem.F.args_list_init_2 _ _, zn_init (A := A.in1) hh Sp s.heap.objs.size ⟨Nat.ne_of_gt lz, Nat.ne_of_gt lTI, Nat.ne_of_gt lTO, fun p hp => ⟨Nat.ne_of_gt (lr p hp).1, Nat.ne_of_gt (lr p hp).2⟩⟩ hne hL hn hlt hend ⟨Nat.le_of_lt lz, Nat.le_of_lt lTO, fun p hp => Nat.le_of_lt (lr p hp).1⟩
    (pu _ _ hz) ⟨⟨_, _, pu _ _ hz, .inl rfl⟩, pu _ _ hZ.ti, let ⟨a, ⟨m, e⟩, q⟩ := hZ.to; ⟨a, ⟨m, pu _ _ e⟩, q⟩, fun p hp => (hZ.r p hp).keep (fun o e => pu _ _ e) (fun o e => pu _ _ e)⟩ hS (fun h' tk acc c as hk hS' hl hG hacc => ?_)⟩
  exact ⟨rfl, hQ h' tk acc c as (fun b o h2 h3 h4 e => hk b o (Nat.ne_of_lt (Heap.lt_size e)) h2 h3 h4 (pu _ _ e)) hS' hl hG hacc⟩
end
end Z
set_option maxRecDepth 100000
set_option maxHeartbeats 2000000
namespace Z
open PySem PySem.Spec PyProof.Rows L2
/-! ## many new tuples and a list of them are tracked -/
def putL : Hp → List Addr → List (List V) → Hp
  | H, a :: as, c :: cs => putL (upd H a (.tup c)) as cs
  | H, _, _ => H
theorem putL_off {b : Addr} : ∀ (as : List Addr) (cs : List (List V)) (H : Hp), b ∉ as → putL H as cs b = H b
  | [], _, _, _ => rfl
  | _ :: _, [], _, _ => rfl
  | a :: as, c :: cs, H, h => by
    show putL (upd H a (.tup c)) as cs b = H b
    rw [putL_off as cs _ (fun z => h (List.mem_cons_of_mem _ z)), upd_ne (fun z => h (by rw [z]; exact List.mem_cons_self))]
theorem putL_at : ∀ (as : List Addr) (cs : List (List V)) (H : Hp), as.length = cs.length → as.Nodup → Paired (fun (t : Addr) (c : List V) => putL H as cs t = some (.tup c)) as cs
  | [], [], _, _, _ => .nil
  | [], _ :: _, _, h, _ => by cases h
  | _ :: _, [], _, h, _ => by cases h
  | a :: as, c :: cs, H, h, hn => by
    have hn' := List.nodup_cons.mp hn
    have ih := putL_at as cs (upd H a (.tup c)) (Nat.succ.inj h) hn'.2
    refine .cons ?_ ih
    show putL (upd H a (.tup c)) as cs a = some (.tup c)
    rw [putL_off as cs _ hn'.1, upd_same]
section
variable {X : Cx}
theorem tups_laid {pins : List (Addr × Obj)} {σ : L2.St} {H : Hp} {s : Shared} {h' : Heap} {tk : Nat} {S : Addr} {cs : List (List V)} {acc : Array Value} {c : Nat} {as : List Addr} (I : Inv X pins σ H s) (hz : cs.length ≤ sizeLine) (hz2 : ∀ x ∈ cs, x.length ≤ sizeLine)
    (hk : ∀ b o, s.heap.get? b = some o → h'.get? b = some o) (hS0 : s.heap.objs.size ≤ S) (hS : h'.get? S = some { cls := .type "list", dict := none, data := .seq acc c, slots := #[] }) (hl : as.length = cs.length) (hrise : as.Pairwise (· < ·)) (habove : ∀ a ∈ as, S < a)
    (hat : ∀ (j : Nat) (a : Addr) (x : List V), as[j]? = some a → cs[j]? = some x → ∃ us : List Value, Vals x us ∧ h'.get? a = some { cls := .type "tuple", data := .seq us.toArray }) (hacc : acc.toList = as.map Value.ref) :
    ∃ H' : Hp, (∀ b o, H b = some o → H' b = some o) ∧ H S = none ∧ (∀ t ∈ as, H t = none) ∧ S ∉ as ∧ H' S = some (.lst (as.map V.ref)) ∧ Paired (fun (t : Addr) (q : List V) => H' t = some (.tup q)) as cs ∧ (∀ b, b ∉ as → b ≠ S → H' b = H b) ∧ Inv X pins σ H' { s with heap := h', toks := tk } := by
  have hSn : S ∉ as := fun z => Nat.lt_irrefl _ (habove _ z)
  have nd : as.Nodup := List.Pairwise.imp (fun {a b} (h : a < b) => Nat.ne_of_lt h) hrise
  have new : ∀ t ∈ as, H t = none := fun t ht => I.hok.fresh (Nat.le_trans hS0 (Nat.le_of_lt (habove t ht)))
  have newS : H S = none := I.hok.fresh hS0
  have atP := putL_at as cs (upd H S (.lst (as.map V.ref))) hl nd
  have off : ∀ b, b ∉ as → b ≠ S → putL (upd H S (.lst (as.map V.ref))) as cs b = H b := fun b h1 h2 => by rw [putL_off as cs _ h1, upd_ne h2]
  have low : ∀ b o, s.heap.get? b = some o → b ∉ as ∧ b ≠ S := fun b o e => ⟨fun z => absurd (Heap.lt_size e) (Nat.not_lt.mpr (Nat.le_trans hS0 (Nat.le_of_lt (habove b z)))), Nat.ne_of_lt (Nat.lt_of_lt_of_le (Heap.lt_size e) hS0)⟩
  have kp : ∀ b u, H b = some u → (putL (upd H S (.lst (as.map V.ref))) as cs) b = some u := fun b u e => by
    rw [off b (fun z => by rw [new b z] at e; cases e) (fun z => by rw [z, newS] at e; cases e)]
    exact e
  have eS : putL (upd H S (.lst (as.map V.ref))) as cs S = some (.lst (as.map V.ref)) := by rw [putL_off as cs _ hSn, upd_same]
  refine ⟨putL (upd H S (.lst (as.map V.ref))) as cs, kp, newS, new, hSn, eS, atP, off, ?_⟩
  refine I.call' (ch := []) rfl ⟨fun b o q _ _ _ => hk b o q, fun b o q _ _ _ => ⟨o.slots, hk b o q⟩, fun b o q n _ => ?_, fun b o q _ => ⟨o, hk b o q⟩, fun b xs q => kp b _ q, fun b o u q => kp b _ q, fun b ps q => ⟨#[], by rw [kp b _ q]; simp⟩⟩ (fun b u q => ?_) I.bare fun b z => by simp at z
  · obtain ⟨z1, z2⟩ := low b o q
    rw [off b z1 z2]
    exact n
  · by_cases hb : b ∈ as
    · obtain ⟨j, pk, e1, e2, e3⟩ := LiI.paired_ix atP hb
      rw [e3] at q
      cases q
      obtain ⟨us, f1, f2⟩ := hat j b pk e1 e2
      exact ⟨hz2 _ (List.mem_of_getElem? e2), us, f1, ⟨_, f2, rfl, _, rfl⟩⟩
    · by_cases hb2 : b = S
      · rw [hb2] at q ⊢
        rw [eS] at q
        cases q
        refine ⟨by rw [List.length_map]; omega, acc.toList, c, by rw [hacc]; exact LiI.vals_refs as, ?_⟩
        rw [Array.toArray_toList]
        exact hS
      · rw [off b hb hb2] at q
        exact (I.hok b u q).stay (fun d v _ y => hk d v y) (fun d y => kp d _ y) fun d xs y => kp d _ y
/-! ## list(zip(*e)) -/
theorem callWith_typeS {M : Model} {A : Around} {E : Value → Shared → Prop} {s : Shared} {pos p : Pos} {T : String} {e : Expr} {env : Env} {Q : Value → Shared → Prop} (h : wpAny M A (eval e env) (fun v s1 => PySem.W.StarOf M A E v (fun vs s2 => wpAny M A (call (.type T) vs) Q E s2) s1) E s)
    (he : starEach [.Starred e p] env = [(true, eval e env)] := by rfl) : wpAny M A (callWith pos (.type T) [] (backTo pos (starEach [.Starred e p] env)) []) Q E s := by
  rw [he]
  refine PySem.W.ks_call (P := fun _ => True) rfl (fun h _ => ⟨.machine, .inr (.inl rfl), ?_⟩) (PySem.W.ks_lone (wpAny_mono h (fun v s1 h1 => ?_) fun _ _ x => x))
  · exact PySem.W.Looks.now
  · refine wpAny_mono h1 (fun b s2 h2 => ⟨h2.1, wpAny_mono h2.2 (fun vs s3 h3 => ⟨trivial, h3⟩) fun _ _ x => x⟩) fun _ _ x => x
end
def minL : List Nat → Nat
  | [] => 0
  | [x] => x
  | x :: y :: r => min x (minL (y :: r))
theorem minL_le : ∀ (l : List Nat), ∀ x ∈ l, minL l ≤ x
  | [x], y, h => by rw [List.mem_singleton.mp h]; exact Nat.le_refl _
  | x :: y :: r, w, h => by
    show min x (minL (y :: r)) ≤ w
    rcases List.mem_cons.mp h with rfl | h
    · exact Nat.min_le_left _ _
    · exact Nat.le_trans (Nat.min_le_right _ _) (minL_le (y :: r) w h)
theorem minL_mem : ∀ (l : List Nat), l ≠ [] → minL l ∈ l
  | [x], _ => List.mem_singleton.mpr rfl
  | x :: y :: r, _ => by
    show min x (minL (y :: r)) ∈ _
    rcases Nat.le_total x (minL (y :: r)) with h | h
    · rw [Nat.min_eq_left h]; exact List.mem_cons_self
    · rw [Nat.min_eq_right h]; exact List.mem_cons_of_mem _ (minL_mem (y :: r) (by simp))
/-- the columns of rows -/
def colsOf {α : Type} (d : α) (xss : List (List α)) : List (List α) := (List.range (minL (xss.map List.length))).map fun j => xss.map fun xs => xs.getD j d
def tLZ (K : PySem.W.Frag) (te : TE) : TE := fun σ H Q => te σ H fun x H1 => ∃ (a : Addr) (rs : List Addr) (vss : List (List V)), x = V.ref a ∧ (SqT K H1 a (rs.map V.ref) ∨ SqL K H1 a (rs.map V.ref)) ∧ Paired (fun (r : Addr) (ys : List V) => SqT K H1 r ys) rs vss ∧ rs ≠ [] ∧ rs.length ≤ 6 ∧
  ∀ (H' : Hp) (p : Addr) (ts : List Addr), Same H1 H' → H1 p = none → (∀ t ∈ ts, H1 t = none) → p ∉ ts → H' p = some (.lst (ts.map V.ref)) → Paired (fun (t : Addr) (q : List V) => H' t = some (.tup q)) ts (colsOf .non vss) → Q (.ref p) H'
theorem vals_row {X : Cx} {pins : List (Addr × Obj)} {σ : L2.St} {H : Hp} {s : Shared} (I : Inv X pins σ H s) : ∀ {rs : List Addr} {vss : List (List V)}, Paired (fun (r : Addr) (ys : List V) => SqT X.K H r ys) rs vss →
    ∃ P : List (Addr × Array Value), P.map (·.1) = rs ∧ Paired (fun (p : Addr × Array Value) (ys : List V) => Vals ys p.2.toList) P vss ∧ ∀ p ∈ P, s.heap.IsTuple p.1 p.2 ∧ p.2.size ≤ sizeLine
  | _, _, .nil => ⟨[], rfl, .nil, fun _ h => nomatch h⟩
  | r :: rs, ys :: vss, .cons h t => by
    obtain ⟨P, e, pv, ht⟩ := vals_row I t
    obtain ⟨its, rv, p, hz⟩ := I.tuple h
    refine ⟨(r, its.toArray) :: P, by simp [e], .cons (by simpa using rv) pv, fun q hq => ?_⟩
    rcases List.mem_cons.mp hq with rfl | hq
    · exact ⟨p, by rw [List.size_toArray, ← rv.length]; exact hz⟩
    · exact ht q hq
theorem rv_mk : ∀ (b : Nat) (P : List (Addr × Array Value)) (j : Nat), rv (mkRw b P) j = P.map fun p => p.2.getD j .none
  | _, [], _ => rfl
  | b, p :: r, j => by
    show p.2.getD j .none :: rv (mkRw (b + 1) r) j = _
    rw [rv_mk (b + 1) r j]; rfl
theorem vals_getD : ∀ {ys : List V} {us : List Value} {j : Nat}, Vals ys us → j < ys.length → RelV (ys.getD j .non) (us.getD j .none)
  | _, _, 0, .cons h _, _ => h
  | _ :: ys, _ :: us, j + 1, .cons _ t, h => (vals_getD (ys := ys) (us := us) (j := j) t (Nat.lt_of_succ_lt_succ h) : RelV (ys.getD j .non) (us.getD j .none))
theorem col_vals : ∀ {P : List (Addr × Array Value)} {vss : List (List V)} {j : Nat}, Paired (fun (p : Addr × Array Value) (ys : List V) => Vals ys p.2.toList) P vss → (∀ ys ∈ vss, j < ys.length) → Vals (vss.map fun ys => ys.getD j .non) (P.map fun p => p.2.getD j .none)
  | _, _, _, .nil, _ => .nil
  | p :: _, ys :: _, j, .cons h t, hj => .cons (by
      have := vals_getD h (hj ys (by simp))
      have e : p.2.toList.getD j .none = p.2.getD j .none := by simp [List.getD, Array.getD_eq_getD_getElem?]
      rw [e] at this
      exact this) (col_vals t fun q hq => hj q (by simp [hq]))
theorem paired_sizes : ∀ {P : List (Addr × Array Value)} {vss : List (List V)}, Paired (fun (p : Addr × Array Value) (ys : List V) => Vals ys p.2.toList) P vss → P.map (fun p => p.2.size) = vss.map List.length
  | _, _, .nil => rfl
  | p :: _, ys :: _, .cons h t => by
    have h1 : p.2.size = ys.length := by have := h.length; simpa using this.symm
    rw [List.map_cons, List.map_cons, paired_sizes t, h1]
theorem paired_len {α β : Type} {F : α → β → Prop} : ∀ {xs : List α} {ys : List β}, Paired F xs ys → xs.length = ys.length
  | _, _, .nil => rfl
  | _, _, .cons _ t => congrArg (· + 1) (paired_len t)
section
variable {X : Cx} {e : Expr} {te : TE} {p p2 sp pos pos2 : Pos}
theorem pe_listZipS (hc : X.calm = true) (hg : Gl X "list") (hm : X.mg "list" = none) (hg2 : Gl X "zip") (hm2 : X.mg "zip" = none) (he : PE X e te)
    (hst : starEach [.Starred e sp] X.env = [(true, eval e X.env)] := by rfl)
    (na : starEach [.Call (.Name "zip" p2) [.Starred e sp] [] pos2] X.env = (false, eval (.Call (.Name "zip" p2) [.Starred e sp] [] pos2) X.env) :: starEach [] X.env := by rfl) :
    PE X (.Call (.Name "list" p) [.Call (.Name "zip" p2) [.Starred e sp] [] pos2] [] pos) (tLZ X.K te) := by
  refine ⟨fun pins s σ H Q I h => ?_⟩
  have inner : wpAny (model X.prog X.w) X.A (eval (.Call (.Name "zip" p2) [.Starred e sp] [] pos2) X.env) (fun x s' => ∃ (s0 : Shared) (P : List (Addr × Array Value)) (H1 : Hp) (rs : List Addr) (vss : List (List V)), Inv X pins σ H1 s0 ∧ rs ≠ [] ∧ rs.length ≤ 6 ∧ x = .ref (s0.heap.objs.size + P.length + 2) ∧ s' = { s0 with heap := s'.heap } ∧ ZNew s0 s'.heap P ∧ P.map (·.1) = rs ∧
      Paired (fun (p : Addr × Array Value) (ys : List V) => Vals ys p.2.toList) P vss ∧ (∀ p ∈ P, s0.heap.IsTuple p.1 p.2 ∧ p.2.size ≤ sizeLine) ∧
      ∀ (H' : Hp) (p : Addr) (ts : List Addr), Same H1 H' → H1 p = none → (∀ t ∈ ts, H1 t = none) → p ∉ ts → H' p = some (.lst (ts.map V.ref)) → Paired (fun (t : Addr) (q : List V) => H' t = some (.tup q)) ts (colsOf .non vss) → Q (.ref p) H') X.xe s := by
    refine Call_ (ld_blt I hg2 hm2 PyProof.Rows.boot_zip (callWith_typeS (thn (he.run pins s σ H _ I h) fun v s1 ⟨x, H1, I1, rx, a, rs, vss, ex, hx, hr, hne, hl, q⟩ => ?_) hst))
    subst ex
    obtain rfl : v = Value.ref a := rx
    refine StX.star_any I1 hx fun us s2 I2 rvv => ?_
    obtain ⟨P, eP, pv, ht⟩ := vals_row I2 hr
    have eu : us = P.map fun p => Value.ref p.1 := by
      have : ∀ (l : List Addr) (us : List Value), Vals (l.map V.ref) us → us = l.map Value.ref := by
        intro l
        induction l with
        | nil => intro us h; cases h; rfl
        | cons a l ih =>
          intro us h
          cases h with
          | cons h1 h2 => rw [List.map_cons, ← ih _ h2]; exact congrArg (· :: _) h1
      rw [this rs us rvv, ← eP, List.map_map]; rfl
    subst eu
    have hPl : P.length ≤ 6 := by rw [← List.length_map (f := (·.1)) (as := P), eP]; exact hl
    refine zip_begins_n P hPl (fun p hp => (ht p hp).1) fun h' N => ?_
    exact ⟨s2, P, H1, rs, vss, I2, hne, hl, rfl, rfl, N, eP, pv, ht, q⟩
  refine Call_ (ld_blt I hg hm boot_list (PyProof.Rows.callWith_type1 (args_cons (thn inner fun x s1 ⟨s0, P, H1, rs, vss, I0, hne, hl, ex, es, N, eP, pv, ht, q⟩ => args_nil ?_) na) na))
  subst ex
  have hPn : P ≠ [] := fun z => hne (by rw [← eP, z]; rfl)
  have hPl : P.length ≤ 6 := by rw [← List.length_map (f := (·.1)) (as := P), eP]; exact hl
  have hLn : mkRw s0.heap.objs.size P ≠ [] := fun z => hPn (List.eq_nil_of_length_eq_zero (by rw [← mkRw_len s0.heap.objs.size P, z]; rfl))
  have hlow : ∀ p ∈ P, p.1 < s0.heap.objs.size := fun p hp => let ⟨o, e, _⟩ := (ht p hp).1; Heap.lt_size e
  have Sp := mkRw_sep (b := s0.heap.objs.size) hlow
  have psz := paired_sizes pv
  have nle : ∀ p ∈ P, minL (vss.map List.length) ≤ p.2.size := fun p hp => minL_le _ _ (by rw [← psz]; exact List.mem_map_of_mem (f := fun p : Addr × Array Value => p.2.size) hp)
  have vne : vss.map List.length ≠ [] := by rw [← psz]; intro z; exact hPn (List.map_eq_nil_iff.mp z)
  obtain ⟨p1, hp1, ep1⟩ : ∃ p ∈ P, p.2.size = minL (vss.map List.length) := by
    have hm := minL_mem _ vne
    rw [← psz] at hm
    obtain ⟨p, hp, e⟩ := List.mem_map.mp hm
    exact ⟨p, hp, by rw [← psz]; exact e⟩
  have hn : minL (vss.map List.length) ≤ sizeLine := ep1 ▸ (ht p1 hp1).2
  have mkend : ∀ (b : Nat) (P : List (Addr × Array Value)) (p : Addr × Array Value), p ∈ P → ∃ q ∈ mkRw b P, q.2.2.size = p.2.size := by
    intro b P
    induction P generalizing b with
    | nil => intro p h; cases h
    | cons a r ih =>
      intro p h
      rcases List.mem_cons.mp h with rfl | h
      · exact ⟨_, List.mem_cons_self, rfl⟩
      · obtain ⟨q, hq, e⟩ := ih (b + 1) p h
        exact ⟨q, List.mem_cons_of_mem _ hq, e⟩
  obtain ⟨q1, hq1, eq1⟩ := mkend s0.heap.objs.size P p1 hp1
  rw [es]
  have lS : s0.heap.objs.size ≤ s1.heap.objs.size := by rw [N.sz]; omega
  refine zn_call (s := { s0 with heap := s1.heap }) (n := minL (vss.map List.length)) (I0.ok.hd hc) Sp hLn (by rw [mkRw_len, sizeLine_eq]; omega) hn (fun p hp => nle _ (mkRw_ge _ _ p hp).2.2) ⟨q1, hq1, by rw [eq1, ep1]⟩ N.z ⟨⟨_, _, N.z, .inl rfl⟩, N.ti, ⟨_, N.to, by rw [List.length_map, mkRw_len]⟩, N.r⟩ fun h' tk acc c as hk hS hla hG hacc => ?_
  have hkk : ∀ b o, s0.heap.get? b = some o → h'.get? b = some o := fun b o e => hk b o (Nat.ne_of_lt (Nat.lt_add_right _ (Nat.lt_add_right _ (Heap.lt_size e)))) (Nat.ne_of_lt (Nat.lt_add_right _ (Nat.lt_add_right _ (Heap.lt_size e)))) (fun p hp => Nat.ne_of_lt (Nat.lt_of_lt_of_le (Heap.lt_size e) (mkRw_ge _ _ p hp).1)) (N.kp b o e)
  have lc : (colsOf V.non vss).length = minL (vss.map List.length) := by simp [colsOf]
  obtain ⟨H', k1, k2, k3, k4, k5, k6, k7, J⟩ := tups_laid (tk := tk) (cs := colsOf .non vss) I0 (by rw [lc]; exact hn) (fun x hx => by
      unfold colsOf at hx
      obtain ⟨j, _, e⟩ := List.mem_map.mp hx
      rw [← e, List.length_map, ← paired_len pv, sizeLine_eq]; omega) hkk lS hS (by rw [hla, lc]) hG.rise hG.above (fun j a x e1 e2 => by
      refine ⟨rv (mkRw s0.heap.objs.size P) j, ?_, hG.at_ j a e1⟩
      unfold colsOf at e2
      have hj : j < minL (vss.map List.length) := by have := (List.getElem?_eq_some_iff.mp e1).1; omega
      rw [List.getElem?_map, List.getElem?_range hj] at e2
      cases e2
      rw [rv_mk]
      exact col_vals pv fun ys hy => Nat.lt_of_lt_of_le hj (minL_le _ _ (List.mem_map_of_mem hy))) hacc
  exact ⟨.ref _, H', J, rfl, q H' _ as k1 k2 k3 k4 k5 k6⟩
end
end Z
set_option maxRecDepth 100000
set_option maxHeartbeats 2000000
namespace Z
open PySem PySem.Spec PyProof.Rows L2
/-! ## list(zip(*e)) of a tuple or a list of tuples -/
@[simp] def rowsOf : List PyData → Option (List (List PyData))
  | [] => some []
  | .tuple xs :: r => (rowsOf r).map (xs :: ·)
  | _ => none
@[simp] def zipRows (rs : List PyData) : Option SV := match rowsOf rs with
  | some xss => if xss ≠ [] ∧ xss.length ≤ 6 then some (.d (.list ((colsOf PyData.none xss).map .tuple))) else none
  | none => none
@[simp] def pZipS (x : SV) (_ : Sto) : Option SV := match x with
  | .d (.tuple rs) => zipRows rs
  | .d (.list rs) => zipRows rs
  | _ => none
theorem StoR.same {K : PySem.W.Frag} {f : Ow} {H H' : Hp} {S : Sto} (h : StoR K f S H) (e : Same H H') : StoR K f S H' :=
  ⟨h.len, h.nd, fun i o a e1 e2 => (h.at_ i o a e1 e2).keep (by
      obtain ⟨u, hu⟩ := h.some_ (List.mem_of_getElem? e2)
      rw [hu, e a u hu]) (Kp.of_same e).q (Gr.refl _ _), h.dj, fun a m => let ⟨u, hu⟩ := h.tr a m; ⟨u, e a u hu⟩, h.sy.1, let ⟨u, hu⟩ := h.sy.2; ⟨u, e _ u hu⟩⟩
section
variable {K : PySem.W.Frag} {f : Ow} {H H' : Hp}
theorem rows_split : ∀ {vs : List V} {ds : List PyData} {xss : List (List PyData)}, IsAll K f H vs ds → rowsOf ds = some xss →
    ∃ (rs : List Addr) (vss : List (List V)), vs = rs.map V.ref ∧ Paired (fun (r : Addr) (ys : List V) => SqT K H r ys) rs vss ∧ Paired (IsAll K f H) vss xss
  | _, [], _, .nil, e => by cases e; exact ⟨[], [], rfl, .nil, .nil⟩
  | _, .tuple xs :: r, _, .cons h t, e => by
    unfold rowsOf at e
    cases e1 : rowsOf r with
    | none => rw [e1] at e; cases e
    | some xss =>
      rw [e1] at e
      cases e
      obtain ⟨rs, vss, e2, p1, p2⟩ := rows_split t e1
      cases h with
      | @tup a ys _ g1 g2 => exact ⟨a :: rs, ys :: vss, by simp [e2], .cons g1.sq p1, .cons g2 p2⟩
theorem isAll_getD : ∀ {ys : List V} {us : List PyData} {j : Nat}, IsAll K f H ys us → j < ys.length → Is K f H (ys.getD j .non) (us.getD j .none)
  | _, _, 0, .cons h _, _ => h
  | _ :: ys, _ :: us, j + 1, .cons _ t, h => (isAll_getD (ys := ys) (us := us) (j := j) t (Nat.lt_of_succ_lt_succ h) : Is K f H (ys.getD j .non) (us.getD j .none))
theorem col_is : ∀ {vss : List (List V)} {xss : List (List PyData)} {j : Nat}, Paired (IsAll K f H) vss xss → (∀ ys ∈ vss, j < ys.length) → IsAll K f H (vss.map fun ys => ys.getD j .non) (xss.map fun xs => xs.getD j .none)
  | _, _, _, .nil, _ => .nil
  | _, _, _, .cons h t, hj => .cons (isAll_getD h (hj _ List.mem_cons_self)) (col_is t fun q hq => hj q (List.mem_cons_of_mem _ hq))
theorem paired_lens : ∀ {vss : List (List V)} {xss : List (List PyData)}, Paired (IsAll K f H) vss xss → vss.map List.length = xss.map List.length
  | _, _, .nil => rfl
  | _, _, .cons h t => by rw [List.map_cons, List.map_cons, paired_lens t, h.len]
theorem tups_is (k : Kq f H H') : ∀ {ts : List Addr} {cs : List (List V)} {ds : List (List PyData)}, Paired (fun (t : Addr) (q : List V) => H' t = some (.tup q)) ts cs → (∀ t ∈ ts, f.nx t) → Paired (IsAll K f H) cs ds → IsAll K f H' (ts.map V.ref) (ds.map PyData.tuple)
  | _, _, _, .nil, _, .nil => .nil
  | _, _, _, .cons h t, n, .cons g r => .cons (.tup (.inl ⟨.inl h, n _ List.mem_cons_self⟩) (g.keep k (Gr.refl _ _))) (tups_is k t (fun t ht => n t (List.mem_cons_of_mem _ ht)) r)
theorem paired_map {α β γ : Type} {F : α → β → Prop} {g : γ → α} {g' : γ → β} : ∀ (l : List γ), (∀ c ∈ l, F (g c) (g' c)) → Paired F (l.map g) (l.map g')
  | [], _ => .nil
  | c :: l, h => .cons (h c List.mem_cons_self) (paired_map l fun d hd => h d (List.mem_cons_of_mem _ hd))
theorem cols_is {vss : List (List V)} {xss : List (List PyData)} (h : Paired (IsAll K f H) vss xss) : Paired (IsAll K f H) (colsOf .non vss) (colsOf .none xss) := by
  unfold colsOf
  rw [paired_lens h]
  refine paired_map _ fun j hj => col_is h fun ys hy => ?_
  have hj := List.mem_range.mp hj
  rw [← paired_lens h] at hj
  exact Nat.lt_of_lt_of_le hj (minL_le _ _ (List.mem_map_of_mem hy))
end
section
variable {X : Cx} {W : WX} {e : Expr} {ee : Ex} {p p2 sp pos pos2 : Pos}
theorem de_listZipS (hc : X.calm = true) (hm : X.mg "list" = none) (hm2 : X.mg "zip" = none) (he : DE X W e ee) (hg : Gl X "list" := by rfl) (hg2 : Gl X "zip" := by rfl)
    (hst : starEach [.Starred e sp] X.env = [(true, eval e X.env)] := by rfl)
    (na : starEach [.Call (.Name "zip" p2) [.Starred e sp] [] pos2] X.env = (false, eval (.Call (.Name "zip" p2) [.Starred e sp] [] pos2) X.env) :: starEach [] X.env := by rfl) :
    DE X W (.Call (.Name "list" p) [.Call (.Name "zip" p2) [.Starred e sp] [] pos2] [] pos) (eUn pZipS ee) :=
  pe_imp (pe_listZipS hc hg hm hg2 hm2 he hst na) fun σV H Q ⟨f, σ, S, r, hE, hS, hr, hq⟩ => by
    refine TX.first hE hS hr (exc_way hq) fun x S1 vx H1 _ h1 s1 k1 e1 r1 => ?_
    have fin : ∀ (a : Addr) (vs : List V) (ds : List PyData), vx = V.ref a → (SqT X.K H1 a vs ∨ SqL X.K H1 a vs) → IsAll X.K f H1 vs ds → zipRows ds = some (match (zipRows ds) with | some z => z | none => .d .none) → (zipRows ds).map (fun z => Res.ok z S1) = some r →
        ∃ (a : Addr) (rs : List Addr) (vss : List (List V)), vx = V.ref a ∧ (SqT X.K H1 a (rs.map V.ref) ∨ SqL X.K H1 a (rs.map V.ref)) ∧ Paired (fun (r : Addr) (ys : List V) => SqT X.K H1 r ys) rs vss ∧ rs ≠ [] ∧ rs.length ≤ 6 ∧
          ∀ (H' : Hp) (p : Addr) (ts : List Addr), Same H1 H' → H1 p = none → (∀ t ∈ ts, H1 t = none) → p ∉ ts → H' p = some (.lst (ts.map V.ref)) → Paired (fun (t : Addr) (q : List V) => H' t = some (.tup q)) ts (colsOf .non vss) → Q (.ref p) H' := by
      intro a vs ds ev hsq hall _ hz
      unfold zipRows at hz
      cases er : rowsOf ds with
      | none => rw [er] at hz; cases hz
      | some xss =>
        rw [er] at hz
        simp only at hz
        split at hz
        · rename_i hb
          cases hz
          obtain ⟨rs, vss, e2, p1, p2⟩ := rows_split hall er
          have l1 : rs.length = xss.length := (paired_len p1).trans (paired_len p2)
          refine ⟨a, rs, vss, ev, e2 ▸ hsq, p1, fun z => hb.1 (List.eq_nil_of_length_eq_zero (by rw [← l1, z]; rfl)), by rw [l1]; exact hb.2, fun H' p ts sm hp ht hn hL hT => ?_⟩
          have kq : Kq f H1 H' := (Kp.of_same sm).q
          exact hq _ H' (s1.same sm) (k1.trans (Kp.of_same sm)) (Is.lst ⟨hL, s1.free hp⟩ (tups_is kq hT (fun t h => s1.free (ht t h)) (cols_is p2)))
        · cases hz
    cases hp : pZipS x S1 with
    | none => rw [hp] at h1; cases h1
    | some z =>
      rw [hp] at h1
      unfold pZipS at hp
      split at hp
      · rename_i rs _
        cases r1 with
        | tup g1 g2 => exact fin _ _ rs rfl (.inl g1.sq) g2 (by rw [hp]) (by rw [hp]; exact h1)
      · rename_i rs _
        cases r1 with
        | lst g1 g2 => exact fin _ _ rs rfl (.inr g1.sq) g2 (by rw [hp]) (by rw [hp]; exact h1)
      · cases hp
end
end Z
set_option maxRecDepth 100000
set_option maxHeartbeats 2000000
namespace Z
open PySem PySem.Spec PyProof.Rows L2

/-! ## .. of any number of lists and tuples -/
def IsSq (k : Bool) (h : Heap) (a : Addr) (items : Array Value) : Prop := match k with
  | true => h.IsTuple a items
  | false => h.IsList a items
def IsIt (k : Bool) (h : Heap) (it a : Addr) (i : Nat) : Prop := match k with
  | true => h.IsTupleIter it a i
  | false => h.IsListIter it a i
theorem IsSq.at {k : Bool} {h h' : Heap} {a : Addr} {items : Array Value} (x : IsSq k h a items) (e : ∀ o, h.get? a = some o → h'.get? a = some o) : IsSq k h' a items := by
  cases k
  · exact Heap.IsList.at x e
  · exact Heap.IsTuple.at x e
theorem IsIt.at {k : Bool} {h h' : Heap} {it a : Addr} {i : Nat} (x : IsIt k h it a i) (e : ∀ o, h.get? it = some o → h'.get? it = some o) : IsIt k h' it a i := by
  cases k
  · exact Heap.IsListIter.at x e
  · exact Heap.IsTupleIter.at x e
theorem IsIt.obj {k : Bool} {h : Heap} {it a : Addr} {i : Nat} (x : IsIt k h it a i) : ∃ o, h.get? it = some o ∧ ∀ v, o.data ≠ .cell v := by
  cases k
  · obtain ⟨o, e, _, d⟩ := (x : h.IsListIter it a i); exact ⟨o, e, fun v q => by rw [d] at q; cases q⟩
  · obtain ⟨o, e, _, d⟩ := (x : h.IsTupleIter it a i); exact ⟨o, e, fun v q => by rw [d] at q; cases q⟩
theorem IsSq.lt {k : Bool} {h : Heap} {a : Addr} {items : Array Value} (x : IsSq k h a items) : a < h.objs.size := by
  cases k
  · obtain ⟨o, e, _⟩ := (x : h.IsList a items); exact Heap.lt_size e
  · obtain ⟨o, e, _⟩ := (x : h.IsTuple a items); exact Heap.lt_size e
def RowG (kd : Rw → Bool) (h : Heap) (k : Nat) (p : Rw) : Prop := IsIt (kd p) h p.1 p.2.1 k ∧ IsSq (kd p) h p.2.1 p.2.2
theorem RowG.keep {kd : Rw → Bool} {h h' : Heap} {k : Nat} {p : Rw} (x : RowG kd h k p) (a : ∀ o, h.get? p.1 = some o → h'.get? p.1 = some o) (b : ∀ o, h.get? p.2.1 = some o → h'.get? p.2.1 = some o) : RowG kd h' k p :=
  ⟨x.1.at a, x.2.at b⟩
section
variable {prog : Program} {w : World} {A : Around} {E : Value → Shared → Prop} {s : Shared}
theorem nextOf_sq_item {b : Bool} {it l : Addr} {i : Nat} {items : Array Value} {x : Value} {Q : Value → Shared → Prop} (hit : IsIt b s.heap it l i)
    (hl : IsSq b s.heap l items) (hx : items[i]? = some x)
    (hQ : ∀ h', IsIt b h' it l (i + 1) → Heap.SameBut it s.heap h' → Q x { s with heap := h' }) :
    wpAny (model prog w) A (Builtin.SmallTypes.nextOf (.ref it)) Q E s := by
  cases b
  · exact wpAny_nextOf_list_item (show s.heap.IsListIter it l i from hit) (show s.heap.IsList l items from hl) hx hQ
  · exact RZ.nextOf_tuple_item (show s.heap.IsTupleIter it l i from hit) (show s.heap.IsTuple l items from hl) hx hQ
theorem nextOf_sq_end {b : Bool} {it l : Addr} {i : Nat} {items : Array Value} {Q : Value → Shared → Prop} (hh : A.handled = none)
    (hit : IsIt b s.heap it l i) (hl : IsSq b s.heap l items) (hx : items[i]? = none)
    (hE : ∀ h' e, Heap.ExtBut it s.heap h' → (∃ o, h'.get? e = some o ∧ o.cls = .type "StopIteration") → E (.ref e) { s with heap := h' }) :
    wpAny (model prog w) A (Builtin.SmallTypes.nextOf (.ref it)) Q E s := by
  cases b
  · exact wpAny_nextOf_list_end hh (show s.heap.IsListIter it l i from hit) (show s.heap.IsList l items from hl) hx hE
  · exact RZ.nextOf_tuple_end hh (show s.heap.IsTupleIter it l i from hit) (show s.heap.IsTuple l items from hl) hx hE
end
section
variable {prog : Program} {w : World} {A : Around} {E : Value → Shared → Prop} {s : Shared} {z TI TO : Addr} {L : List Rw} {kd : Rw → Bool}
theorem zg_free {f0 : Value} {f1 : Bool} {Q : Bool → Shared → Prop} (hz : ZF s.heap z TI TO f0 f1) (h0 : f0 = .none ∨ ∃ T : Addr, f0 = rawInt T)
    (h : ∀ b f1' h', (f0 = .none → b = true) → ZF h' z TI TO f0 f1' → Heap.SameBut z s.heap h' → Q b { s with heap := h' }) : wpAny (model prog w) A (Builtin.SmallTypes.ownedTupleIsFree (.ref z)) Q E s := by
  by_cases hn : f0 = .none
  · subst hn
    unfold Builtin.SmallTypes.ownedTupleIsFree
    exact wpAny_bind (wpAny_field hz rfl (x := .none) rfl (wpAny_pure (h true f1 s.heap (fun _ => rfl) hz (Heap.SameBut.refl _ _))))
  · exact zn_free hz h0 fun b f1' h' hz' hs' => h b f1' h' (fun e => absurd e hn) hz' hs'
/-- how far the drawing is -/
structure MidG (kd : Rw → Bool) (h0 h : Heap) (TO : Addr) (k : Nat) (done todo : List Rw) : Prop where
  sz : h.objs.size = h0.objs.size
  kp : ∀ c o, c ≠ TO → (∀ p ∈ done ++ todo, c ≠ p.1) → h0.get? c = some o → h.get? c = some o
  dn : ∀ p ∈ done, RowG kd h (k + 1) p
  td : ∀ p ∈ todo, RowG kd h k p
theorem MidG.step {h0 h h' : Heap} {k : Nat} {done todo : List Rw} {p : Rw} (S : ZSep z TI TO (done ++ p :: todo)) (M : MidG kd h0 h TO k done (p :: todo)) (hi : IsIt (kd p) h' p.1 p.2.1 (k + 1)) (hs : Heap.SameBut p.1 h h') : MidG kd h0 h' TO k (done ++ [p]) todo := by
  have hp : p ∈ done ++ p :: todo := by simp
  have nd := S.nd
  rw [List.map_append, List.map_cons] at nd
  have nd1 : ∀ q ∈ done, q.1 ≠ p.1 := fun q hq e => (List.nodup_append.mp nd).2.2 q.1 (List.mem_map_of_mem hq) p.1 List.mem_cons_self e
  have nd2 : ∀ q ∈ todo, q.1 ≠ p.1 := fun q hq e => (List.nodup_cons.mp (List.nodup_append.mp nd).2.1).1 (e ▸ List.mem_map_of_mem (f := (·.1)) hq)
  have up : ∀ q j, q ∈ done ++ p :: todo → q.1 ≠ p.1 → RowG kd h j q → RowG kd h' j q := fun q j hq hn x =>
    x.keep (fun o e => hs.extBut _ _ hn e) (fun o e => hs.extBut _ _ (S.ti q hq p hp) e)
  refine ⟨hs.1.trans M.sz, fun c o hc hd e => hs.extBut _ _ (hd p (by simp)) (M.kp c o hc (fun q hq => hd q (by simpa using hq)) e), fun q hq => ?_, fun q hq => up q k (by simp [hq]) (nd2 q hq) (M.td q (by simp [hq]))⟩
  rcases List.mem_append.mp hq with hq | hq
  · exact up q _ (by simp [hq]) (nd1 q hq) (M.dn q hq)
  · rw [List.mem_singleton.mp hq]
    exact ⟨hi, (M.td p (by simp)).2.at fun o e => hs.extBut _ _ (S.ti p hp p hp) e⟩
/-- the next item where the tuple isn't free, or is: all rows have one -/
theorem zg_item {k : Nat} {f0 : Value} {f1 : Bool} {arr : List Value} {Q : Value → Shared → Prop} (S : ZSep z TI TO L) (hne : L ≠ []) (hL : L.length ≤ sizeLine)
    (hz : ZF s.heap z TI TO f0 f1) (h0 : f0 = .none ∨ ∃ T : Addr, f0 = rawInt T) (hTI : ZTI s.heap TI L) (hTO : ZTO s.heap TO arr) (ha : arr.length = L.length) (hr : ∀ p ∈ L, RowG kd s.heap k p) (hk : ∀ p ∈ L, k < p.2.2.size)
    (hQ : ∀ h' f0' f1' arr', (f0 = .none → f0' = rawInt s.heap.objs.size ∧ f1' = false) → ZF h' z TI TO f0' f1' → (f0' = .none ∨ ∃ T : Addr, f0' = rawInt T) → ZTO h' TO arr' → arr'.length = L.length → (∀ p ∈ L, RowG kd h' (k + 1) p) →
      h'.get? s.heap.objs.size = some { cls := .type "tuple", data := .seq (rv L k).toArray } → h'.objs.size = s.heap.objs.size + 1 →
      (∀ c o, c ≠ z → c ≠ TO → (∀ p ∈ L, c ≠ p.1) → s.heap.get? c = some o → h'.get? c = some o) → Q (.ref s.heap.objs.size) { s with heap := h' }) :
    wpAny (model prog w) A (Builtin.«zip.__next__» ⟨[.ref z], []⟩) (fun fin s' => ∃ v, fin = .done (.ret v) ∧ Q v s') E s := by
  show wpAny _ _ (field (.ref z) 2 >>= _) _ _ _
  refine wpAny_bind (wpAny_field hz rfl (x := .bool false) rfl ?_)
  show wpAny _ _ (field (.ref z) 3 >>= _) _ _ _
  refine wpAny_bind (wpAny_field hz rfl (x := .ref TI) rfl ?_)
  refine wpAny_bind (wpAny_seqItems hTI rfl ?_)
  have hemp : (L.map fun p => Value.ref p.1).toArray.isEmpty = false := by
    cases L with
    | nil => exact absurd rfl hne
    | cons a t => simp
  simp only [hemp, Bool.false_eq_true, if_false]
  try show wpAny _ _ (Builtin.SmallTypes.ownedTupleIsFree (.ref z) >>= _) _ _ _
  refine wpAny_bind (zg_free hz h0 fun b f1' h₁ hfr hz₁ hs₁ => ?_)
  have hTO1 : ZTO h₁ TO arr := let ⟨n, e⟩ := hTO; ⟨n, hs₁.extBut _ _ S.TOz e⟩
  have hr1 : ∀ p ∈ L, RowG kd h₁ k p := fun p hp => (hr p hp).keep (fun o e => hs₁.extBut _ _ (S.i_ p hp).1 e) (fun o e => hs₁.extBut _ _ (S.t_ p hp).1 e)
  cases b with
  | false =>
    simp only [Bool.false_eq_true, if_false]
    refine wpAny_bind ?_
    rw [← Array.forIn_toList]
    refine wpAny_forIn_list _ (fun rest b t => ∃ done todo h, L = done ++ todo ∧ rest = todo.map (fun p => Value.ref p.1) ∧ b = (none, (rv done k).toArray) ∧ t = { s with heap := h } ∧ MidG kd h₁ h TO k done todo ∧ ZTO h TO arr) _ ?_ ?_ _ _ ⟨[], L, h₁, rfl, by simp, rfl, rfl, ⟨rfl, fun c o _ _ e => e, (fun _ hp => nomatch hp), hr1⟩, hTO1⟩
    · rintro x rest b t ⟨done, todo, h, eL, er, rfl, rfl, M, hT⟩
      cases todo with
      | nil => cases er
      | cons p todo =>
        obtain ⟨rfl, rfl⟩ := List.cons.inj er
        have hp : p ∈ L := by rw [eL]; simp
        obtain ⟨vx, hx⟩ : ∃ vx, p.2.2[k]? = some vx := ⟨_, Array.getElem?_eq_getElem (hk p hp)⟩
        refine wpAny_bind (wpAny_holding ?_)
        show wpAny _ _ (Builtin.SmallTypes.nextOf (.ref p.1) >>= _) _ _ _
        refine wpAny_bind (nextOf_sq_item (s := { s with heap := h }) (M.td p (by simp)).1 (M.td p (by simp)).2 hx fun h' hi hs => wpAny_pure (wpAny_pure ?_))
        refine ⟨done ++ [p], todo, h', by rw [eL]; simp, rfl, ?_, rfl, MidG.step (eL ▸ S) M hi hs, let ⟨n, e⟩ := hT; ⟨n, hs.extBut _ _ (S.i_ p hp).2.2.symm e⟩⟩
        rw [rv_app done p k hx]
        simp
    · rintro b t ⟨done, todo, h, eL, er, rfl, rfl, M, hT⟩
      have ht : todo = [] := by
        cases todo with
        | nil => rfl
        | cons a b => cases er
      subst ht
      have eL : L = done := by rw [eL, List.append_nil]
      subst eL
      have hzt : ZF h z TI TO f0 f1' := M.kp _ _ S.TOz.symm (fun p hp => (S.i_ p (by simpa using hp)).1.symm) hz₁
      have hsz : h.objs.size = s.heap.objs.size := M.sz.trans hs₁.1
      show wpAny _ _ (newTuple (rv L k).toArray.toList >>= _) _ _ _
      refine wpAny_bind (wpAny_newTuple ?_ (by simp [rv]; exact hL))
      refine wpAny_pure ⟨_, rfl, ?_⟩
      show Q (.ref h.objs.size) _
      have hp : (h.push { cls := .type "tuple", data := .seq (rv L k).toArray.toList.toArray }).get? h.objs.size = some { cls := .type "tuple", data := .seq (rv L k).toArray.toList.toArray } := Heap.get?_push_size _ rfl
      have hz4 : (h.push { cls := .type "tuple", data := .seq (rv L k).toArray.toList.toArray }).objs.size = h.objs.size + 1 := Heap.size_push ..
      rw [hsz] at hp hz4 ⊢
      exact hQ _ f0 f1' arr (fun e => nomatch (hfr e)) (Heap.get?_push_of_some _ hzt) h0 (let ⟨n, e⟩ := hT; ⟨n, Heap.get?_push_of_some _ e⟩) ha (fun p hp' => (M.dn p hp').keep (fun o e => Heap.get?_push_of_some _ e) (fun o e => Heap.get?_push_of_some _ e)) (by simpa using hp) hz4
        fun c o c1 c2 c3 e => Heap.get?_push_of_some _ (M.kp c o c2 (fun p hp' => c3 p (by simpa using hp')) (hs₁.extBut _ _ c1 e))
  | true =>
    simp only [if_true]
    refine wpAny_bind (wpAny_rule ?_)
    refine wpAny_bind (wpAny_field hz₁ rfl (x := .ref TO) rfl ?_)
    refine wpAny_bind (wpAny_setField_rec hz₁ (by simp) fun h₂ hz₂ hs₂ => ?_)
    replace hz₂ : ZF h₂ z TI TO .ellipsis f1' := hz₂
    replace hs₂ : Heap.SameBut z h₁ h₂ := hs₂
    have hTO2 : ZTO h₂ TO arr := let ⟨n, e⟩ := hTO1; ⟨n, hs₂.extBut _ _ S.TOz e⟩
    have hr2 : ∀ p ∈ L, RowG kd h₂ k p := fun p hp => (hr1 p hp).keep (fun o e => hs₂.extBut _ _ (S.i_ p hp).1 e) (fun o e => hs₂.extBut _ _ (S.t_ p hp).1 e)
    refine wpAny_bind ?_
    refine wpAny_forIn_list _ (fun rest b t => ∃ done todo h ar, L = done ++ todo ∧ rest = (todo.map (fun p => Value.ref p.1)).zipIdx done.length ∧ b = (none, ()) ∧ t = { s with heap := h } ∧ MidG kd h₂ h TO k done todo ∧ ZTO h TO ar ∧ ar.length = L.length ∧ ar.take done.length = rv done k) _ ?_ ?_ _ _ ⟨[], L, h₂, arr, rfl, rfl, rfl, rfl, ⟨rfl, fun c o _ _ e => e, (fun _ hp => nomatch hp), hr2⟩, hTO2, ha, rfl⟩
    · rintro x rest b t ⟨done, todo, h, ar, eL, er, rfl, rfl, M, ⟨nT, hT⟩, hl, htk⟩
      cases todo with
      | nil => cases er
      | cons p todo =>
        rw [List.map_cons, List.zipIdx_cons] at er
        obtain ⟨rfl, rfl⟩ := List.cons.inj er
        have hp : p ∈ L := by rw [eL]; simp
        obtain ⟨vx, hx⟩ : ∃ vx, p.2.2[k]? = some vx := ⟨_, Array.getElem?_eq_getElem (hk p hp)⟩
        refine wpAny_bind (wpAny_onRaise ?_)
        show wpAny _ _ (Builtin.SmallTypes.nextOf (.ref p.1) >>= _) _ _ _
        refine wpAny_bind (nextOf_sq_item (s := { s with heap := h }) (M.td p (by simp)).1 (M.td p (by simp)).2 hx fun h' hi hs => wpAny_pure ?_)
        replace hs : Heap.SameBut p.1 h h' := hs
        have hT' := hs.extBut _ _ (S.i_ p hp).2.2.symm hT
        refine wpAny_bind (wpAny_seqItems (s := { s with heap := h' }) hT' rfl ?_)
        refine wpAny_bind (wpAny_updateSeq (s := { s with heap := h' }) hT' rfl ?_)
        refine wpAny_bind (wpAny_letGo (wpAny_pure ?_))
        have M' := MidG.step (eL ▸ S) M hi hs
        have hu := Heap.get?_update_self (Obj.mapSeq (·.setIfInBounds done.length vx)) hT' rfl
        have hdl : done.length < ar.length := by rw [hl, eL]; simp
        have hT2 : ZTO (h'.update TO (Obj.mapSeq (·.setIfInBounds done.length vx))) TO (ar.set done.length vx) := by
          simp only [Obj.mapSeq, List.setIfInBounds_toArray] at hu
          exact ⟨_, hu⟩
        refine ⟨done ++ [p], todo, h'.update TO (Obj.mapSeq (·.setIfInBounds done.length vx)), ar.set done.length vx, by rw [eL]; simp, by simp, rfl, rfl, ⟨?_, fun c o c1 c2 e => ?_, fun q hq => ?_, fun q hq => ?_⟩, hT2, by simpa using hl, ?_⟩
        · rw [(Heap.SameBut.update ..).1]; exact M'.sz
        · exact (Heap.SameBut.update ..).extBut _ _ c1 (M'.kp c o c1 c2 e)
        · have hq' : q ∈ L := by rw [eL]; rcases List.mem_append.mp hq with z | z <;> simp_all
          exact (M'.dn q hq).keep (fun o e => (Heap.SameBut.update ..).extBut _ _ (S.i_ q hq').2.2 e) (fun o e => (Heap.SameBut.update ..).extBut _ _ (S.t_ q hq').2 e)
        · have hq' : q ∈ L := by rw [eL]; simp [hq]
          exact (M'.td q hq).keep (fun o e => (Heap.SameBut.update ..).extBut _ _ (S.i_ q hq').2.2 e) (fun o e => (Heap.SameBut.update ..).extBut _ _ (S.t_ q hq').2 e)
        · rw [rv_app done p k hx, ← htk, List.length_append, List.length_singleton]
          rw [List.take_succ_eq_append_getElem (by simpa using hdl)]
          simp [List.take_set_of_le]
    · rintro b t ⟨done, todo, h, ar, eL, er, rfl, rfl, M, ⟨nT, hT⟩, hl, htk⟩
      have ht : todo = [] := by
        cases todo with
        | nil => rfl
        | cons a b => simp at er
      subst ht
      have eL : L = done := by rw [eL, List.append_nil]
      subst eL
      have har : ar = rv L k := by rw [← htk, ← hl, List.take_length]
      subst har
      have hzt : ZF h z TI TO .ellipsis f1' := M.kp _ _ S.TOz.symm (fun p hp => (S.i_ p (by simpa using hp)).1.symm) hz₂
      have hsz : h.objs.size = s.heap.objs.size := M.sz.trans (hs₂.1.trans hs₁.1)
      show wpAny _ _ (seqItems? (.ref TO) >>= _) _ _ _
      refine wpAny_bind (wpAny_seqItems (s := { s with heap := h }) hT rfl ?_)
      refine wpAny_bind (wpAny_newTuple ?_ (by simp [rv]; exact hL))
      have hzlt : z < h.objs.size := Heap.lt_size hzt
      show wpAny _ _ (Builtin.SmallTypes.ownedTupleHandOut (.ref z) (.ref h.objs.size) >>= _) _ _ _
      refine wpAny_bind ?_
      unfold Builtin.SmallTypes.ownedTupleHandOut
      have hz₆ : ZF (h.push { cls := .type "tuple", data := .seq (rv L k).toArray.toList.toArray }) z TI TO .ellipsis f1' := Heap.get?_push_of_some _ hzt
      refine wpAny_bind (wpAny_setField_rec hz₆ (by simp) fun h₇ hz₇ hs₇ => ?_)
      replace hz₇ : ZF h₇ z TI TO (rawInt h.objs.size) f1' := hz₇
      refine wpAny_setField_rec hz₇ (by simp) fun h₈ hz₈ hs₈ => ?_
      replace hz₈ : ZF h₈ z TI TO (rawInt h.objs.size) false := hz₈
      replace hs₇ : Heap.SameBut z (h.push { cls := .type "tuple", data := .seq (rv L k).toArray.toList.toArray }) h₇ := hs₇
      replace hs₈ : Heap.SameBut z h₇ h₈ := hs₈
      have up : ∀ c o, c ≠ z → h.get? c = some o → h₈.get? c = some o := fun c o c1 e => hs₈.extBut _ _ c1 (hs₇.extBut _ _ c1 (Heap.get?_push_of_some _ e))
      have hT₈ : h₈.get? h.objs.size = some { cls := .type "tuple", data := .seq (rv L k).toArray.toList.toArray } := hs₈.extBut _ _ (Nat.ne_of_gt hzlt) (hs₇.extBut _ _ (Nat.ne_of_gt hzlt) (Heap.get?_push_size _ rfl))
      have hz8 : h₈.objs.size = h.objs.size + 1 := by rw [hs₈.1, hs₇.1, Heap.size_push]
      refine wpAny_pure ⟨_, rfl, ?_⟩
      show Q (.ref h.objs.size) _
      rw [hsz] at hz₈ hT₈ hz8 ⊢
      exact hQ h₈ _ _ (rv L k) (fun _ => ⟨rfl, rfl⟩) hz₈ (.inr ⟨_, rfl⟩) ⟨_, up _ _ S.TOz hT⟩ hl (fun p hp' => (M.dn p hp').keep (fun o e => up _ _ (S.i_ p hp').1 e) (fun o e => up _ _ (S.t_ p hp').1 e)) (by simpa using hT₈) hz8
        fun c o c1 c2 c3 e => up c o c1 (M.kp c o c2 (fun p hp' => c3 p (by simpa using hp')) (hs₂.extBut _ _ c1 (hs₁.extBut _ _ c1 e)))
/-- one row has no more -/
theorem zg_end {k : Nat} {f0 : Value} {f1 : Bool} {arr : List Value} {Q : Fin → Shared → Prop} (hh : A.handled = none) (S : ZSep z TI TO L) (hL : L.length ≤ sizeLine)
    (hz : ZF s.heap z TI TO f0 f1) (h0 : f0 = .none ∨ ∃ T : Addr, f0 = rawInt T) (hTI : ZTI s.heap TI L) (hTO : ZTO s.heap TO arr) (ha : arr.length = L.length) (hr : ∀ p ∈ L, RowG kd s.heap k p) (hk : ∃ p ∈ L, p.2.2[k]? = none)
    (hE : ∀ h' e, (∀ c o, c ≠ z → c ≠ TO → (∀ p ∈ L, c ≠ p.1) → s.heap.get? c = some o → h'.get? c = some o) → (∃ o, h'.get? e = some o ∧ o.cls = .type "StopIteration") → E (.ref e) { s with heap := h' }) :
    wpAny (model prog w) A (Builtin.«zip.__next__» ⟨[.ref z], []⟩) Q E s := by
  show wpAny _ _ (field (.ref z) 2 >>= _) _ _ _
  refine wpAny_bind (wpAny_field hz rfl (x := .bool false) rfl ?_)
  show wpAny _ _ (field (.ref z) 3 >>= _) _ _ _
  refine wpAny_bind (wpAny_field hz rfl (x := .ref TI) rfl ?_)
  refine wpAny_bind (wpAny_seqItems hTI rfl ?_)
  have hemp : (L.map fun p => Value.ref p.1).toArray.isEmpty = false := by
    cases L with
    | nil => obtain ⟨p, hp, _⟩ := hk; cases hp
    | cons a t => simp
  simp only [hemp, Bool.false_eq_true, if_false]
  try show wpAny _ _ (Builtin.SmallTypes.ownedTupleIsFree (.ref z) >>= _) _ _ _
  refine wpAny_bind (zn_free hz h0 fun b f1' h₁ hz₁ hs₁ => ?_)
  have hTO1 : ZTO h₁ TO arr := let ⟨n, e⟩ := hTO; ⟨n, hs₁.extBut _ _ S.TOz e⟩
  have hr1 : ∀ p ∈ L, RowG kd h₁ k p := fun p hp => (hr p hp).keep (fun o e => hs₁.extBut _ _ (S.i_ p hp).1 e) (fun o e => hs₁.extBut _ _ (S.t_ p hp).1 e)
  cases b with
  | false =>
    simp only [Bool.false_eq_true, if_false]
    refine wpAny_bind ?_
    rw [← Array.forIn_toList]
    refine wpAny_forIn_list _ (fun rest b t => ∃ done todo h, L = done ++ todo ∧ rest = todo.map (fun p => Value.ref p.1) ∧ t = { s with heap := h } ∧ MidG kd h₁ h TO k done todo ∧ ∀ p ∈ done, p.2.2[k]? ≠ none) _ ?_ ?_ _ _ ⟨[], L, h₁, rfl, by simp, rfl, ⟨rfl, fun c o _ _ e => e, (fun _ hp => nomatch hp), hr1⟩, (fun _ hp => nomatch hp)⟩
    · rintro x rest b t ⟨done, todo, h, eL, er, rfl, M, hd⟩
      cases todo with
      | nil => cases er
      | cons p todo =>
        obtain ⟨rfl, rfl⟩ := List.cons.inj er
        have hp : p ∈ L := by rw [eL]; simp
        refine wpAny_bind (wpAny_holding ?_)
        show wpAny _ _ (Builtin.SmallTypes.nextOf (.ref p.1) >>= _) _ _ _
        cases hx : p.2.2[k]? with
        | some vx =>
          refine wpAny_bind (nextOf_sq_item (s := { s with heap := h }) (M.td p (by simp)).1 (M.td p (by simp)).2 hx fun h' hi hs => wpAny_pure (wpAny_pure ?_))
          exact ⟨done ++ [p], todo, h', by rw [eL]; simp, rfl, rfl, MidG.step (eL ▸ S) M hi hs, fun q hq => by
            rcases List.mem_append.mp hq with hq | hq
            · exact hd q hq
            · rw [List.mem_singleton.mp hq, hx]; simp⟩
        | none =>
          refine wpAny_bind (nextOf_sq_end (s := { s with heap := h }) hh (M.td p (by simp)).1 (M.td p (by simp)).2 hx fun h' e hs he => ?_)
          exact hE h' e (fun c o c1 c2 c3 x => hs _ _ (c3 p hp) (M.kp c o c2 (fun q hq => c3 q (by rw [eL]; exact hq)) (hs₁.extBut _ _ c1 x))) he
    · rintro b t ⟨done, todo, h, eL, er, rfl, M, hd⟩
      have ht : todo = [] := by
        cases todo with
        | nil => rfl
        | cons a b => cases er
      subst ht
      obtain ⟨p, hp, hx⟩ := hk
      rw [eL, List.append_nil] at hp
      exact absurd hx (hd p hp)
  | true =>
    simp only [if_true]
    refine wpAny_bind (wpAny_rule ?_)
    refine wpAny_bind (wpAny_field hz₁ rfl (x := .ref TO) rfl ?_)
    refine wpAny_bind (wpAny_setField_rec hz₁ (by simp) fun h₂ hz₂ hs₂ => ?_)
    replace hz₂ : ZF h₂ z TI TO .ellipsis f1' := hz₂
    replace hs₂ : Heap.SameBut z h₁ h₂ := hs₂
    have hTO2 : ZTO h₂ TO arr := let ⟨n, e⟩ := hTO1; ⟨n, hs₂.extBut _ _ S.TOz e⟩
    have hr2 : ∀ p ∈ L, RowG kd h₂ k p := fun p hp => (hr1 p hp).keep (fun o e => hs₂.extBut _ _ (S.i_ p hp).1 e) (fun o e => hs₂.extBut _ _ (S.t_ p hp).1 e)
    refine wpAny_bind ?_
    refine wpAny_forIn_list _ (fun rest b t => ∃ done todo h ar, L = done ++ todo ∧ rest = (todo.map (fun p => Value.ref p.1)).zipIdx done.length ∧ t = { s with heap := h } ∧ MidG kd h₂ h TO k done todo ∧ ZTO h TO ar ∧ ar.length = L.length ∧ ∀ p ∈ done, p.2.2[k]? ≠ none) _ ?_ ?_ _ _ ⟨[], L, h₂, arr, rfl, rfl, rfl, ⟨rfl, fun c o _ _ e => e, (fun _ hp => nomatch hp), hr2⟩, hTO2, ha, (fun _ hp => nomatch hp)⟩
    · rintro x rest b t ⟨done, todo, h, ar, eL, er, rfl, M, ⟨nT, hT⟩, hl, hd⟩
      cases todo with
      | nil => cases er
      | cons p todo =>
        rw [List.map_cons, List.zipIdx_cons] at er
        obtain ⟨rfl, rfl⟩ := List.cons.inj er
        have hp : p ∈ L := by rw [eL]; simp
        refine wpAny_bind (wpAny_onRaise ?_)
        show wpAny _ _ (Builtin.SmallTypes.nextOf (.ref p.1) >>= _) _ _ _
        cases hx : p.2.2[k]? with
        | some vx =>
          refine wpAny_bind (nextOf_sq_item (s := { s with heap := h }) (M.td p (by simp)).1 (M.td p (by simp)).2 hx fun h' hi hs => wpAny_pure ?_)
          replace hs : Heap.SameBut p.1 h h' := hs
          have hT' := hs.extBut _ _ (S.i_ p hp).2.2.symm hT
          refine wpAny_bind (wpAny_seqItems (s := { s with heap := h' }) hT' rfl ?_)
          refine wpAny_bind (wpAny_updateSeq (s := { s with heap := h' }) hT' rfl ?_)
          refine wpAny_bind (wpAny_letGo (wpAny_pure ?_))
          have M' := MidG.step (eL ▸ S) M hi hs
          have hu := Heap.get?_update_self (Obj.mapSeq (·.setIfInBounds done.length vx)) hT' rfl
          have hT2 : ZTO (h'.update TO (Obj.mapSeq (·.setIfInBounds done.length vx))) TO (ar.set done.length vx) := by
            simp only [Obj.mapSeq, List.setIfInBounds_toArray] at hu
            exact ⟨_, hu⟩
          refine ⟨done ++ [p], todo, h'.update TO (Obj.mapSeq (·.setIfInBounds done.length vx)), ar.set done.length vx, by rw [eL]; simp, by simp, rfl, ⟨?_, fun c o c1 c2 e => ?_, fun q hq => ?_, fun q hq => ?_⟩, hT2, by simpa using hl, ?_⟩
          · rw [(Heap.SameBut.update ..).1]; exact M'.sz
          · exact (Heap.SameBut.update ..).extBut _ _ c1 (M'.kp c o c1 c2 e)
          · have hq' : q ∈ L := by rw [eL]; rcases List.mem_append.mp hq with z | z <;> simp_all
            exact (M'.dn q hq).keep (fun o e => (Heap.SameBut.update ..).extBut _ _ (S.i_ q hq').2.2 e) (fun o e => (Heap.SameBut.update ..).extBut _ _ (S.t_ q hq').2 e)
          · have hq' : q ∈ L := by rw [eL]; simp [hq]
            exact (M'.td q hq).keep (fun o e => (Heap.SameBut.update ..).extBut _ _ (S.i_ q hq').2.2 e) (fun o e => (Heap.SameBut.update ..).extBut _ _ (S.t_ q hq').2 e)
          · intro q hq
            rcases List.mem_append.mp hq with hq | hq
            · exact hd q hq
            · rw [List.mem_singleton.mp hq, hx]; simp
        | none =>
          refine wpAny_bind (nextOf_sq_end (s := { s with heap := h }) hh (M.td p (by simp)).1 (M.td p (by simp)).2 hx fun h' e hs he => ?_)
          have hzt : ZF h z TI TO .ellipsis f1' := M.kp _ _ S.TOz.symm (fun q hq => (S.i_ q (by rw [eL]; exact hq)).1.symm) hz₂
          replace hs : Heap.ExtBut p.1 h h' := hs
          have hz3 : ZF h' z TI TO .ellipsis f1' := hs _ _ (S.i_ p hp).1.symm hzt
          obtain ⟨oe, hoe, hce⟩ := he
          replace hoe : h'.get? e = some oe := hoe
          have hez : e ≠ z := fun x => by subst x; rw [hz3] at hoe; cases hoe; simp at hce
          refine wpAny_setField_rec (s := { s with heap := h' }) hz3 (by simp) fun h₃ _ hs₃ => ?_
          replace hs₃ : Heap.SameBut z h' h₃ := hs₃
          exact hE h₃ e (fun c o c1 c2 c3 x => hs₃.extBut _ _ c1 (hs _ _ (c3 p hp) (M.kp c o c2 (fun q hq => c3 q (by rw [eL]; exact hq)) (hs₂.extBut _ _ c1 (hs₁.extBut _ _ c1 x))))) ⟨oe, hs₃.extBut _ _ hez hoe, hce⟩
    · rintro b t ⟨done, todo, h, ar, eL, er, rfl, M, hT, hl, hd⟩
      have ht : todo = [] := by
        cases todo with
        | nil => rfl
        | cons a b => simp at er
      subst ht
      obtain ⟨p, hp, hx⟩ := hk
      rw [eL, List.append_nil] at hp
      exact absurd hx (hd p hp)
/-! ## its pyNext -/
theorem zg_pyNext_item {k : Nat} {f0 : Value} {f1 : Bool} {arr : List Value} {Q : Option Value → Shared → Prop} (S : ZSep z TI TO L) (hne : L ≠ []) (hL : L.length ≤ sizeLine)
    (hz : ZF s.heap z TI TO f0 f1) (h0 : f0 = .none ∨ ∃ T : Addr, f0 = rawInt T) (hTI : ZTI s.heap TI L) (hTO : ZTO s.heap TO arr) (ha : arr.length = L.length) (hr : ∀ p ∈ L, RowG kd s.heap k p) (hk : ∀ p ∈ L, k < p.2.2.size)
    (hQ : ∀ h' f0' f1' arr', (f0 = .none → f0' = rawInt s.heap.objs.size ∧ f1' = false) → ZF h' z TI TO f0' f1' → (f0' = .none ∨ ∃ T : Addr, f0' = rawInt T) → ZTO h' TO arr' → arr'.length = L.length → (∀ p ∈ L, RowG kd h' (k + 1) p) →
      h'.get? s.heap.objs.size = some { cls := .type "tuple", data := .seq (rv L k).toArray } → h'.objs.size = s.heap.objs.size + 1 →
      (∀ c o, c ≠ z → c ≠ TO → (∀ p ∈ L, c ≠ p.1) → s.heap.get? c = some o → h'.get? c = some o) → Q (some (.ref s.heap.objs.size)) { s with heap := h' }) :
    wpAny (model prog w) A (pyNext (.ref z)) Q E s := by
  have hT : s.TypeIs (.ref z) "zip" := ⟨_, hz, rfl⟩
  unfold pyNext
  exact wpAny_bind (wpAny_attempt (wpAny_callSpecial?_slot (name := Str.ofString "__next__") hT F.slot_zip_next
    (wpAny_call_entry F.slot_zip_next hT F.entry_zip_next
      (zg_item S hne hL hz h0 hTI hTO ha hr hk fun h' f0' f1' arr' a0 a1 a2 a3 a4 a5 a6 a7 a8 => wpAny_pure (hQ h' f0' f1' arr' a0 a1 a2 a3 a4 a5 a6 a7 a8)) (F.args_zip_next_1 _))))
theorem zg_pyNext_end {k : Nat} {f0 : Value} {f1 : Bool} {arr : List Value} {Q : Option Value → Shared → Prop} (hh : A.handled = none) (S : ZSep z TI TO L) (hL : L.length ≤ sizeLine)
    (hz : ZF s.heap z TI TO f0 f1) (h0 : f0 = .none ∨ ∃ T : Addr, f0 = rawInt T) (hTI : ZTI s.heap TI L) (hTO : ZTO s.heap TO arr) (ha : arr.length = L.length) (hr : ∀ p ∈ L, RowG kd s.heap k p) (hk : ∃ p ∈ L, p.2.2[k]? = none)
    (hQ : ∀ h', (∀ c o, c ≠ z → c ≠ TO → (∀ p ∈ L, c ≠ p.1) → s.heap.get? c = some o → h'.get? c = some o) → Q none { s with heap := h' }) :
    wpAny (model prog w) A (pyNext (.ref z)) Q E s := by
  have hT : s.TypeIs (.ref z) "zip" := ⟨_, hz, rfl⟩
  unfold pyNext
  refine wpAny_bind (wpAny_attempt (wpAny_callSpecial?_slot (name := Str.ofString "__next__") hT F.slot_zip_next
    (wpAny_call_entry F.slot_zip_next hT F.entry_zip_next (zg_end hh S hL hz h0 hTI hTO ha hr hk fun h' e kk he => ?_) (F.args_zip_next_1 _))))
  obtain ⟨o, ho, hc⟩ := he
  refine wpAny_bind (wpAny_isInstance (T := "StopIteration") (b := true) ⟨o, ho, hc⟩ isSubtype_stop ?_)
  exact wpAny_pure (hQ _ kk)
end
end Z
set_option maxRecDepth 100000
set_option maxHeartbeats 2000000
namespace Z
open PySem PySem.Spec PyProof.Rows L2
/-! ## a zip of lists and tuples is made -/
def kdOf (ks : List Bool) (b : Nat) (p : Rw) : Bool := ks.getD (p.1 - b) true
section
variable {prog : Program} {w : World} {A : Around} {E : Value → Shared → Prop} {s : Shared}
theorem pyIter_sq {k : Bool} {a : Addr} {items : Array Value} {Q : Value → Shared → Prop} (hl : IsSq k s.heap a items)
    (h : ∀ h', IsIt k h' s.heap.objs.size a 0 → h'.objs.size = s.heap.objs.size + 1 → (∀ c o, s.heap.get? c = some o → h'.get? c = some o) → Q (.ref s.heap.objs.size) { s with heap := h' }) :
    wpAny (model prog w) A (pyIter (.ref a)) Q E s := by
  cases k
  · exact wpAny_pyIter_list (show s.heap.IsList a items from hl) (h _ ⟨_, Heap.get?_push_size _ rfl, rfl, rfl⟩ (Heap.size_push ..) fun c o e => Heap.get?_push_of_some _ e)
  · exact wpAny_pyIter_tuple (show s.heap.IsTuple a items from hl) (h _ ⟨_, Heap.get?_push_size _ rfl, rfl, rfl⟩ (Heap.size_push ..) fun c o e => Heap.get?_push_of_some _ e)
end
section
variable {prog : Program} {w : World} {A : Around} {E : Value → Shared → Prop} {s : Shared}
theorem iterAll_sq (ks : List Bool) (P : List (Addr × Array Value)) {Q : List Value → Shared → Prop} (hP : ∀ (j : Nat) (p : Addr × Array Value), P[j]? = some p → IsSq (ks.getD j true) s.heap p.1 p.2)
    (hQ : ∀ h', h'.objs.size = s.heap.objs.size + P.length → (∀ c o, s.heap.get? c = some o → h'.get? c = some o) → (∀ p ∈ mkRw s.heap.objs.size P, RowG (kdOf ks s.heap.objs.size) h' 0 p) →
      Q ((mkRw s.heap.objs.size P).map fun p => Value.ref p.1) { s with heap := h' }) :
    wpAny (model prog w) A (Builtin.SmallTypes.iterAll (P.map fun p => Value.ref p.1)) Q E s := by
  unfold Builtin.SmallTypes.iterAll
  refine wpAny_bind ?_
  refine wpAny_forIn_list _ (fun rest b t => ∃ done todo h, P = done ++ todo ∧ rest = todo.map (fun p => Value.ref p.1) ∧ b = ((mkRw s.heap.objs.size done).map fun p => Value.ref p.1).toArray ∧ t = { s with heap := h } ∧
    h.objs.size = s.heap.objs.size + done.length ∧ (∀ c o, s.heap.get? c = some o → h.get? c = some o) ∧ ∀ p ∈ mkRw s.heap.objs.size done, RowG (kdOf ks s.heap.objs.size) h 0 p) _ ?_ ?_ _ _ ⟨[], P, s.heap, rfl, rfl, rfl, rfl, rfl, fun _ _ e => e, (fun _ hp => nomatch hp)⟩
  · rintro x rest b t ⟨done, todo, h, eP, er, rfl, rfl, hsz, hk, hr⟩
    cases todo with
    | nil => cases er
    | cons p todo =>
      obtain ⟨rfl, rfl⟩ := List.cons.inj er
      have hp : P[done.length]? = some p := by rw [eP, List.getElem?_append_right (Nat.le_refl _)]; simp
      have ht : IsSq (ks.getD done.length true) h p.1 p.2 := (hP _ p hp).at fun o e => hk _ o e
      have hkd : kdOf ks s.heap.objs.size (h.objs.size, p.1, p.2) = ks.getD done.length true := by
        show ks.getD (h.objs.size - s.heap.objs.size) true = _
        rw [hsz, Nat.add_sub_cancel_left]
      have app : ∀ (b : Nat) (d : List (Addr × Array Value)), mkRw b (d ++ [p]) = mkRw b d ++ [(b + d.length, p.1, p.2)] := by
        intro b d
        induction d generalizing b with
        | nil => rfl
        | cons q d ih => simp [mkRw, ih, Nat.add_assoc, Nat.add_comm 1]
      refine wpAny_bind (wpAny_holding (pyIter_sq (s := { s with heap := h }) ht fun h2 hi h2s h2k => wpAny_pure ?_))
      replace h2s : h2.objs.size = h.objs.size + 1 := h2s
      replace hi : IsIt (ks.getD done.length true) h2 h.objs.size p.1 0 := hi
      replace h2k : ∀ c o, h.get? c = some o → h2.get? c = some o := h2k
      refine ⟨done ++ [p], todo, h2, by rw [eP]; simp, rfl, ?_, rfl, ?_, fun c o e => h2k c o (hk c o e), fun q hq => ?_⟩
      · rw [app, ← hsz]; simp
      · rw [h2s, hsz, List.length_append]; rfl
      · rw [app] at hq
        rcases List.mem_append.mp hq with hq | hq
        · exact (hr q hq).keep (fun o e => h2k _ _ e) (fun o e => h2k _ _ e)
        · rw [List.mem_singleton.mp hq, ← hsz]
          unfold RowG
          rw [hkd]
          exact ⟨hi, ht.at fun o e => h2k _ _ e⟩
  · rintro b t ⟨done, todo, h, eP, er, rfl, rfl, hsz, hk, hr⟩
    have ht : todo = [] := by
      cases todo with
      | nil => rfl
      | cons a b => cases er
    subst ht
    rw [List.append_nil] at eP
    subst eP
    refine wpAny_pure ?_
    simpa using hQ h hsz hk hr
/-- what a zip of tuples is when it is made -/
structure ZNewG (ks : List Bool) (s : Shared) (h' : Heap) (P : List (Addr × Array Value)) : Prop where
  z : ZF h' (s.heap.objs.size + P.length + 2) (s.heap.objs.size + P.length) (s.heap.objs.size + P.length + 1) .none false
  ti : ZTI h' (s.heap.objs.size + P.length) (mkRw s.heap.objs.size P)
  to : ZTO h' (s.heap.objs.size + P.length + 1) (P.map fun _ => Value.none)
  r : ∀ p ∈ mkRw s.heap.objs.size P, RowG (kdOf ks s.heap.objs.size) h' 0 p
  sz : h'.objs.size = s.heap.objs.size + P.length + 3
  kp : ∀ c o, s.heap.get? c = some o → h'.get? c = some o
theorem meets_zip_g (ks : List Bool) (P : List (Addr × Array Value)) (hn : P.length ≤ sizeLine) :
    Meets (Builtin.«zip.__new__» ⟨.type "zip" :: P.map fun p => Value.ref p.1, []⟩) (fun _ R s => (∀ (j : Nat) (p : Addr × Array Value), P[j]? = some p → IsSq (ks.getD j true) s.heap p.1 p.2) ∧
      ∀ h', ZNewG ks s h' P → R (.ok (.ret (.ref (s.heap.objs.size + P.length + 2)))) { s with heap := h' }) :=
  .of_wp fun prog w A R s h => by
    obtain ⟨hp, g, d, tk, os⟩ := s
    obtain ⟨h1, h⟩ := h
    have hsub := sub_zip
    have q1 : ∀ {A' : Around} {E : Value → Shared → Prop} {Q : List Value → Shared → Prop}, (∀ h', h'.objs.size = hp.objs.size + P.length → (∀ c o, hp.get? c = some o → h'.get? c = some o) → (∀ p ∈ mkRw hp.objs.size P, RowG (kdOf ks hp.objs.size) h' 0 p) →
      Q ((mkRw hp.objs.size P).map fun p => Value.ref p.1) ⟨h', g, d, tk, os⟩) → wpAny (model prog w) A' (Builtin.SmallTypes.iterAll (P.map fun p => Value.ref p.1)) Q E ⟨hp, g, d, tk, os⟩ :=
      fun q => iterAll_sq ks (s := ⟨hp, g, d, tk, os⟩) P h1 q
    wp_walk using q1
    intro h' hsz hk hr
    have hm : (P.map fun p => Value.ref p.1).length = P.length := List.length_map _
    have hl : ((mkRw hp.objs.size P).map fun p => Value.ref p.1).length = P.length := by rw [List.length_map, mkRw_len]
    refine wpAny_bind (wpAny_newTuple ?_ (by rw [hl]; exact hn))
    refine wpAny_bind (wpAny_newTuple ?_ (by rw [List.length_map, hl]; exact hn))
    refine wpAny_bind ?_
    unfold Builtin.SmallTypes.newRecord
    refine wpAny_newObj_type ?_ (by show (5 : Nat) ≤ sizeLine + 2; decide)
    refine wpAny_pure ⟨_, rfl, ?_⟩
    have z1 : (h'.push { cls := .type "tuple", data := .seq ((mkRw hp.objs.size P).map fun p => Value.ref p.1).toArray }).objs.size = hp.objs.size + P.length + 1 := by rw [Heap.size_push, hsz]
    have z2 : ((h'.push { cls := .type "tuple", data := .seq ((mkRw hp.objs.size P).map fun p => Value.ref p.1).toArray }).push { cls := .type "tuple", data := .seq (((mkRw hp.objs.size P).map fun p => Value.ref p.1).map fun _ => Value.none).toArray }).objs.size = hp.objs.size + P.length + 2 := by rw [Heap.size_push, z1]
    have key := h _ (⟨?_, ?_, ?_, ?_, ?_, ?_⟩   : ZNewG ks ⟨hp, g, d, tk, os⟩ (((h'.push { cls := .type "tuple", data := .seq ((mkRw hp.objs.size P).map fun p => Value.ref p.1).toArray }).push { cls := .type "tuple", data := .seq (((mkRw hp.objs.size P).map fun p => Value.ref p.1).map fun _ => Value.none).toArray }).push { cls := .type "zip", data := .fields #[.none, .bool false, .bool false, .ref h'.objs.size, .ref (h'.push { cls := .type "tuple", data := .seq ((mkRw hp.objs.size P).map fun p => Value.ref p.1).toArray }).objs.size] }) P)
    · show R (.ok (.ret (.ref ((h'.push { cls := .type "tuple", data := .seq ((mkRw hp.objs.size P).map fun p => Value.ref p.1).toArray }).push { cls := .type "tuple", data := .seq (((mkRw hp.objs.size P).map fun p => Value.ref p.1).map fun _ => Value.none).toArray }).objs.size))) _
      rw [z2]
      exact key
    · have := Heap.get?_push_size ((h'.push { cls := .type "tuple", data := .seq ((mkRw hp.objs.size P).map fun p => Value.ref p.1).toArray }).push { cls := .type "tuple", data := .seq (((mkRw hp.objs.size P).map fun p => Value.ref p.1).map fun _ => Value.none).toArray }) (o := { cls := .type "zip", data := .fields #[.none, .bool false, .bool false, .ref h'.objs.size, .ref (h'.push { cls := .type "tuple", data := .seq ((mkRw hp.objs.size P).map fun p => Value.ref p.1).toArray }).objs.size] }) rfl
      rw [z2] at this
      rw [z1, hsz] at this
      rw [z1, hsz]
      exact this
    · refine Heap.get?_push_of_some _ (Heap.get?_push_of_some _ ?_)
      show (h'.push _).get? (hp.objs.size + P.length) = _
      rw [← hsz]
      exact Heap.get?_push_size _ rfl
    · refine ⟨0, Heap.get?_push_of_some _ ?_⟩
      show Heap.get? _ (hp.objs.size + P.length + 1) = _
      rw [← z1]
      have := Heap.get?_push_size (h'.push { cls := .type "tuple", data := .seq ((mkRw hp.objs.size P).map fun p => Value.ref p.1).toArray }) (o := { cls := .type "tuple", data := .seq (((mkRw hp.objs.size P).map fun p => Value.ref p.1).map fun _ => Value.none).toArray }) rfl
      rw [this]
      have e : (((mkRw hp.objs.size P).map fun p => Value.ref p.1).map fun _ => Value.none) = P.map fun _ => Value.none := by
        rw [List.map_const', List.map_const', hl]
      rw [e]
    · exact fun p hp' => (hr p hp').keep (fun o e => Heap.get?_push_of_some _ (Heap.get?_push_of_some _ (Heap.get?_push_of_some _ e))) (fun o e => Heap.get?_push_of_some _ (Heap.get?_push_of_some _ (Heap.get?_push_of_some _ e)))
    · show Array.size _ = hp.objs.size + P.length + 3
      rw [Heap.size_push, z2]
    · exact fun c o e => Heap.get?_push_of_some _ (Heap.get?_push_of_some _ (Heap.get?_push_of_some _ (hk c o e)))
theorem zip_begins_g (ks : List Bool) (P : List (Addr × Array Value)) {Q : Value → Shared → Prop} (hn : P.length ≤ 6) (hP : ∀ (j : Nat) (p : Addr × Array Value), P[j]? = some p → IsSq (ks.getD j true) s.heap p.1 p.2) (h : ∀ h', ZNewG ks s h' P → Q (.ref (s.heap.objs.size + P.length + 2)) { s with heap := h' }) :
    wpAny (model prog w) A (call (.type "zip") (P.map fun p => Value.ref p.1)) Q E s := by
  refine callType_new PySem.F.called_zip (by decide) (typeCall_zip_n _) (newCall_zip_n _ (by rw [List.length_map]; exact hn)) (fun obj => args_object_init_n obj _) PySem.F.entry_zip_new
    (meets_zip_g ks P (by rw [sizeLine_eq]; omega)) ⟨hP, fun h' (N : ZNewG ks s h' P) => ⟨⟨_, N.z, rfl⟩, h h' N⟩⟩
end
end Z
set_option maxRecDepth 100000
set_option maxHeartbeats 2000000
namespace Z
open PySem PySem.Spec PyProof.Rows L2
/-! ## zip of lists and tuples is walked -/
def SqB (K : PySem.W.Frag) (H : Hp) (r : Bool × Addr) (xs : List V) : Prop := match r.1 with
  | true => SqT K H r.2 xs
  | false => SqL K H r.2 xs
theorem SqB.get {X : Cx} {pins : List (Addr × Obj)} {σ : L2.St} {H : Hp} {s : Shared} (I : Inv X pins σ H s) {r : Bool × Addr} {xs : List V} (h : SqB X.K H r xs) : ∃ its : List Value, Vals xs its ∧ IsSq r.1 s.heap r.2 its.toArray ∧ xs.length ≤ sizeLine := by
  obtain ⟨k, a⟩ := r
  cases k
  · obtain ⟨its, rv, p, hz⟩ := I.list (show SqL X.K H a xs from h)
    exact ⟨its, rv, p.isList, hz⟩
  · obtain ⟨its, rv, p, hz⟩ := I.tuple (show SqT X.K H a xs from h)
    exact ⟨its, rv, p, hz⟩
theorem SqB.inj {X : Cx} {pins : List (Addr × Obj)} {σ : L2.St} {H : Hp} {s : Shared} (I : Inv X pins σ H s) {r : Bool × Addr} {xs ys : List V} (h : SqB X.K H r xs) (h' : SqB X.K H r ys) : xs = ys := by
  obtain ⟨k, a⟩ := r
  cases k
  · exact I.list_inj (show SqL X.K H a xs from h) h'
  · exact I.tuple_inj (show SqT X.K H a xs from h) h'
theorem sqs_inj {X : Cx} {pins : List (Addr × Obj)} {σ : L2.St} {H : Hp} {s : Shared} (I : Inv X pins σ H s) : ∀ {rows : List (Bool × Addr)} {xss yss : List (List V)}, Paired (SqB X.K H) rows xss → Paired (SqB X.K H) rows yss → xss = yss
  | _, _, _, .nil, .nil => rfl
  | _, _, _, .cons h t, .cons h' t' => by rw [h.inj I h', sqs_inj I t t']
theorem sqs_get {X : Cx} {pins : List (Addr × Obj)} {σ : L2.St} {H : Hp} {s : Shared} (I : Inv X pins σ H s) : ∀ {rows : List (Bool × Addr)} {xss : List (List V)}, Paired (SqB X.K H) rows xss →
    ∃ P : List (Addr × Array Value), P.map (·.1) = rows.map (·.2) ∧ Paired (fun (p : Addr × Array Value) (xs : List V) => Vals xs p.2.toList) P xss ∧ (∀ (j : Nat) (p : Addr × Array Value), P[j]? = some p → IsSq ((rows.map (·.1)).getD j true) s.heap p.1 p.2) ∧ (∀ p ∈ P, p.2.size ≤ sizeLine)
  | _, _, .nil => ⟨[], rfl, .nil, (fun j p h => by simp at h), fun _ h => nomatch h⟩
  | r :: rows, xs :: xss, .cons h t => by
    obtain ⟨P, e, pv, ht, hz⟩ := sqs_get I t
    obtain ⟨its, rv, p, hz2⟩ := h.get I
    refine ⟨(r.2, its.toArray) :: P, by simp [e], .cons (by simpa using rv) pv, fun j q hq => ?_, fun q hq => ?_⟩
    · cases j with
      | zero => cases hq; exact p
      | succ j => exact ht j q hq
    · rcases List.mem_cons.mp hq with rfl | hq
      · rw [List.size_toArray, ← rv.length]; exact hz2
      · exact hz q hq
def ItN (K : PySem.W.Frag) (rows : List (Bool × Addr)) : It :=
  ⟨fun i H => ∃ xss : List (List V), Paired (SqB K H) rows xss ∧ ∀ xs ∈ xss, i < xs.length,
    fun i H v H' => ∃ (T : Addr) (vs : List V), v = .ref T ∧ H T = none ∧ H' = upd H T (.tup vs) ∧ ∀ xss : List (List V), Paired (SqB K H) rows xss → vs = xss.map fun xs => xs.getD i .non,
    fun i H => ∃ xss : List (List V), Paired (SqB K H) rows xss ∧ ∃ xs ∈ xss, xs.length ≤ i⟩
theorem mkRw_fst : ∀ (b : Nat) (P Q : List (Addr × Array Value)), P.length = Q.length → (mkRw b P).map (fun p => Value.ref p.1) = (mkRw b Q).map fun p => Value.ref p.1
  | _, [], [], _ => rfl
  | b, p :: P, q :: Q, h => by
    simp only [mkRw, List.map_cons]
    rw [mkRw_fst (b + 1) P Q (Nat.succ.inj h)]
theorem mkRw_like : ∀ (b : Nat) (P Q : List (Addr × Array Value)), P.map (·.1) = Q.map (·.1) → ∀ p ∈ mkRw b P, ∃ q ∈ mkRw b Q, q.1 = p.1 ∧ q.2.1 = p.2.1
  | _, [], _, _, _, hp => nomatch hp
  | b, p :: P, [], e, _, _ => by cases e
  | b, p :: P, q :: Q, e, x, hx => by
    simp only [List.map_cons, List.cons.injEq] at e
    rcases List.mem_cons.mp hx with rfl | hx
    · exact ⟨_, List.mem_cons_self, rfl, e.1.symm⟩
    · obtain ⟨y, hy, h1, h2⟩ := mkRw_like (b + 1) P Q e.2 x hx
      exact ⟨y, List.mem_cons_of_mem _ hy, h1, h2⟩
theorem mkRw_ix : ∀ (b : Nat) (P : List (Addr × Array Value)), ∀ p ∈ mkRw b P, ∃ j, P[j]? = some (p.2.1, p.2.2) ∧ p.1 = b + j
  | b, q :: r, p, hp => by
    rcases List.mem_cons.mp hp with rfl | hp
    · exact ⟨0, rfl, rfl⟩
    · obtain ⟨j, e1, e2⟩ := mkRw_ix (b + 1) r p hp
      exact ⟨j + 1, e1, by rw [e2, Nat.add_assoc, Nat.add_comm 1]⟩
/-- the rows, their items not told -/
def rows0 (rows : List (Bool × Addr)) : List (Addr × Array Value) := rows.map fun r => (r.2, #[])
structure TnN (rows : List (Bool × Addr)) (b : Nat) (i : Nat) (h : Heap) : Prop where
  z : ZF h (b + rows.length + 2) (b + rows.length) (b + rows.length + 1) .none false
  ti : ZTI h (b + rows.length) (mkRw b (rows0 rows))
  to : ∃ arr, ZTO h (b + rows.length + 1) arr ∧ arr.length = rows.length
  r : ∀ p ∈ mkRw b (rows0 rows), IsIt (kdOf (rows.map (·.1)) b p) h p.1 p.2.1 i
abbrev fpN (rows : List (Bool × Addr)) (b : Nat) : List Addr := (b + rows.length + 2) :: (b + rows.length) :: (b + rows.length + 1) :: (mkRw b (rows0 rows)).map (·.1)
theorem rows0_fst (rows : List (Bool × Addr)) : (rows0 rows).map (·.1) = rows.map (·.2) := by simp [rows0]
theorem kd_eq {rows : List (Bool × Addr)} {b : Nat} {p q : Rw} (h : q.1 = p.1) : kdOf (rows.map (·.1)) b q = kdOf (rows.map (·.1)) b p := by unfold kdOf; rw [h]
theorem turn_zipN {P : Program} {w : World} {K : PySem.W.Frag} {elts : List Expr} {kk : Nat} {tpos : Pos} {rows : List (Bool × Addr)} {b : Nat} (hne : rows ≠ []) (hl : rows.length ≤ 6) (hlow : ∀ r ∈ rows, r.2 < b) :
    Turn P w K (.Tuple elts kk tpos) (ItN K rows) (fpN rows b) (b + rows.length + 2) (TnN rows b) where
  mem := List.mem_cons_self
  obj := fun i h st c hc => by
    rcases List.mem_cons.mp hc with rfl | hc
    · exact ⟨_, st.z, fun v q => nomatch q⟩
    · rcases List.mem_cons.mp hc with rfl | hc
      · exact ⟨_, st.ti, fun v q => nomatch q⟩
      · rcases List.mem_cons.mp hc with rfl | hc
        · obtain ⟨arr, ⟨n, e⟩, _⟩ := st.to
          exact ⟨_, e, fun v q => nomatch q⟩
        · obtain ⟨p, hp, rfl⟩ := List.mem_map.mp hc
          exact (st.r p hp).obj
  keep := fun i h h' st k => ⟨k _ (by simp) _ st.z, k _ (by simp) _ st.ti, let ⟨arr, ⟨n, e⟩, l⟩ := st.to; ⟨arr, ⟨n, k _ (by simp) _ e⟩, l⟩,
    fun p hp => (st.r p hp).at fun o e => k _ (List.mem_cons_of_mem _ (List.mem_cons_of_mem _ (List.mem_cons_of_mem _ (List.mem_map_of_mem (f := (·.1)) hp)))) o e⟩
  item := by
    intro X hP hw hK hc i pins s σ H E I hf st hg
    subst hP hw hK
    obtain ⟨xss, hsq, hlt⟩ := hg
    obtain ⟨P, eP, pv, hP, hz⟩ := sqs_get I hsq
    have eP0 : P.map (·.1) = (rows0 rows).map (·.1) := by rw [eP, rows0_fst]
    have lP : P.length = rows.length := by rw [← List.length_map (f := (·.1)) (as := P), eP, List.length_map]
    have lP0 : P.length = (rows0 rows).length := by rw [lP]; simp [rows0]
    have hb : ∀ p ∈ P, p.1 < b := fun p hp => by
      have : p.1 ∈ rows.map (·.2) := eP ▸ List.mem_map_of_mem hp
      obtain ⟨r, hr, e⟩ := List.mem_map.mp this
      rw [← e]; exact hlow r hr
    have Sp := mkRw_sep hb
    rw [lP] at Sp
    have hRow : ∀ p ∈ mkRw b P, RowG (kdOf (rows.map (·.1)) b) s.heap i p := fun p hp => by
      obtain ⟨q, hq, e1, e2⟩ := mkRw_like b P (rows0 rows) eP0 p hp
      have h1 := st.r q hq
      rw [kd_eq e1, e1, e2] at h1
      obtain ⟨j, f1, f2⟩ := mkRw_ix b P p hp
      refine ⟨h1, ?_⟩
      have := hP j _ f1
      unfold kdOf
      rw [f2, Nat.add_sub_cancel_left]
      exact this
    have hsz := paired_sizes pv
    have hk : ∀ p ∈ mkRw b P, i < p.2.2.size := fun p hp => by
      have h1 : p.2.2.size ∈ P.map fun p => p.2.size := List.mem_map_of_mem (f := fun p : Addr × Array Value => p.2.size) (mkRw_ge b P p hp).2.2
      rw [hsz] at h1
      obtain ⟨xs, hx, e⟩ := List.mem_map.mp h1
      rw [← e]; exact hlt xs hx
    have hPn : mkRw b P ≠ [] := fun z => hne (List.eq_nil_of_length_eq_zero (by rw [← lP, ← mkRw_len b P, z]; rfl))
    obtain ⟨arr, hto, harr⟩ := st.to
    have hti : ZTI s.heap (b + rows.length) (mkRw b P) := by
      have := st.ti
      unfold ZTI at this ⊢
      rw [mkRw_fst b P (rows0 rows) lP0]
      exact this
    have hzl : b + rows.length + 2 < s.heap.objs.size := Heap.lt_size st.z
    refine zg_pyNext_item (kd := kdOf (rows.map (·.1)) b) Sp hPn (by rw [mkRw_len, lP, sizeLine_eq]; omega) st.z (.inl rfl) hti hto (by rw [harr, mkRw_len, lP]) hRow hk fun h' f0' f1' arr' a0 a1 a2 a3 a4 a5 a6 a7 a8 => ?_
    obtain ⟨rfl, rfl⟩ := a0 rfl
    refine ⟨_, rfl, wpAny_letOwnedTupleGo_zip (s := { s with heap := h' }) a1 fun h'' z'' sb => ?_⟩
    replace sb : Heap.SameBut (b + rows.length + 2) h' h'' := sb
    have hT2 : h''.get? s.heap.objs.size = some { cls := .type "tuple", data := .seq (rv (mkRw b P) i).toArray } := (sb.2 _ (Nat.ne_of_gt hzl)).trans a6
    have vals : Vals (xss.map fun xs => xs.getD i .non) (rv (mkRw b P) i) := by
      rw [rv_mk]
      exact col_vals pv hlt
    have lx : xss.length = rows.length := by rw [← lP]; exact (paired_len pv).symm
    have new : ObjOk X.prog X.w (upd H s.heap.objs.size (.tup (xss.map fun xs => xs.getD i .non))) h'' s.heap.objs.size (.tup (xss.map fun xs => xs.getD i .non)) :=
      ⟨by rw [List.length_map, lx, sizeLine_eq]; omega, _, vals, ⟨_, hT2, rfl, _, rfl⟩⟩
    have hk8 : ∀ c o, c ∉ fpN rows b → s.heap.get? c = some o → h''.get? c = some o := fun c o hcn q => by
      have n1 : c ≠ b + rows.length + 2 := fun z => hcn (by rw [z]; exact List.mem_cons_self)
      have n2 : c ≠ b + rows.length + 1 := fun z => hcn (by rw [z]; exact List.mem_cons_of_mem _ (List.mem_cons_of_mem _ List.mem_cons_self))
      refine (sb.2 c n1).trans (a8 c o n1 n2 (fun p hp z => hcn ?_) q)
      obtain ⟨q', hq', e1, _⟩ := mkRw_like b P (rows0 rows) eP0 p hp
      rw [z, ← e1]
      exact List.mem_cons_of_mem _ (List.mem_cons_of_mem _ (List.mem_cons_of_mem _ (List.mem_map_of_mem (f := (·.1)) hq')))
    have I1 : Inv X pins σ (upd H s.heap.objs.size (.tup (xss.map fun xs => xs.getD i .non))) { s with heap := h'' } := I.turnedNew (t' := s.toks) hk8 hf (Nat.le_refl _) new
    refine ⟨.ref s.heap.objs.size, _, I1, rfl, ⟨_, _, rfl, I.hok.fresh (Nat.le_refl _), rfl, fun yss hy => by rw [sqs_inj I hy hsq]⟩, ⟨z'', ?_, ⟨arr', ?_, by rw [a4, mkRw_len, lP]⟩, fun q hq => ?_⟩, fun c hcm => ?_⟩
    · have h2 := a8 _ _ Sp.TIz Sp.TITO (fun p hp => (Sp.i_ p hp).2.1.symm) st.ti
      exact (sb.2 _ Sp.TIz).trans h2
    · obtain ⟨n, e⟩ := a3
      exact ⟨n, (sb.2 _ Sp.TOz).trans e⟩
    · obtain ⟨p, hp, e1, e2⟩ := mkRw_like b (rows0 rows) P eP0.symm q hq
      have h1 := (a5 p hp).1
      rw [kd_eq (p := q) e1, e1, e2] at h1
      exact h1.at fun o q' => (sb.2 _ (by rw [← e1]; exact (Sp.i_ p hp).1)).trans q'
    · have hlt : c < s.heap.objs.size := by
        rcases List.mem_cons.mp hcm with rfl | hcm
        · exact hzl
        · rcases List.mem_cons.mp hcm with rfl | hcm
          · exact Heap.lt_size st.ti
          · rcases List.mem_cons.mp hcm with rfl | hcm
            · obtain ⟨n, e⟩ := hto; exact Heap.lt_size e
            · obtain ⟨p, hp, rfl⟩ := List.mem_map.mp hcm
              obtain ⟨o, e, _⟩ := (st.r p hp).obj
              exact Heap.lt_size e
      rw [upd_ne (Nat.ne_of_lt hlt)]
      exact (hf c hcm).1
  done := by
    intro X hP hw hK hc i pins s σ H E I hf st hg
    subst hP hw hK
    obtain ⟨xss, hsq, hend⟩ := hg
    obtain ⟨P, eP, pv, hP, hz⟩ := sqs_get I hsq
    have eP0 : P.map (·.1) = (rows0 rows).map (·.1) := by rw [eP, rows0_fst]
    have lP : P.length = rows.length := by rw [← List.length_map (f := (·.1)) (as := P), eP, List.length_map]
    have lP0 : P.length = (rows0 rows).length := by rw [lP]; simp [rows0]
    have hb : ∀ p ∈ P, p.1 < b := fun p hp => by
      have : p.1 ∈ rows.map (·.2) := eP ▸ List.mem_map_of_mem hp
      obtain ⟨r, hr, e⟩ := List.mem_map.mp this
      rw [← e]; exact hlow r hr
    have Sp := mkRw_sep hb
    rw [lP] at Sp
    have hRow : ∀ p ∈ mkRw b P, RowG (kdOf (rows.map (·.1)) b) s.heap i p := fun p hp => by
      obtain ⟨q, hq, e1, e2⟩ := mkRw_like b P (rows0 rows) eP0 p hp
      have h1 := st.r q hq
      rw [kd_eq e1, e1, e2] at h1
      obtain ⟨j, f1, f2⟩ := mkRw_ix b P p hp
      refine ⟨h1, ?_⟩
      have := hP j _ f1
      unfold kdOf
      rw [f2, Nat.add_sub_cancel_left]
      exact this
    have hsz := paired_sizes pv
    have hk : ∃ p ∈ mkRw b P, p.2.2[i]? = none := by
      obtain ⟨xs, hx, hle⟩ := hend
      have h1 : xs.length ∈ xss.map List.length := List.mem_map_of_mem hx
      rw [← hsz] at h1
      obtain ⟨p, hp, e⟩ := List.mem_map.mp h1
      have : ∀ (b : Nat) (P : List (Addr × Array Value)), p ∈ P → ∃ q ∈ mkRw b P, q.2.2 = p.2 := by
        intro b P
        induction P generalizing b with
        | nil => intro h; cases h
        | cons a r ih =>
          intro h
          rcases List.mem_cons.mp h with rfl | h
          · exact ⟨_, List.mem_cons_self, rfl⟩
          · obtain ⟨q, hq, e⟩ := ih (b + 1) h
            exact ⟨q, List.mem_cons_of_mem _ hq, e⟩
      obtain ⟨q, hq, e2⟩ := this b P hp
      exact ⟨q, hq, by rw [e2]; exact Array.getElem?_eq_none (by omega)⟩
    obtain ⟨arr, hto, harr⟩ := st.to
    have hti : ZTI s.heap (b + rows.length) (mkRw b P) := by
      have := st.ti
      unfold ZTI at this ⊢
      rw [mkRw_fst b P (rows0 rows) lP0]
      exact this
    refine zg_pyNext_end (kd := kdOf (rows.map (·.1)) b) (I.ok.hd hc) Sp (by rw [mkRw_len, lP, sizeLine_eq]; omega) st.z (.inl rfl) hti hto (by rw [harr, mkRw_len, lP]) hRow hk fun h' hk => ⟨rfl, I.turnedL (t' := s.toks) (ch := fpN rows b) (fun c o hcn q => ?_) hf⟩
    have n1 : c ≠ b + rows.length + 2 := fun z => hcn (by rw [z]; exact List.mem_cons_self)
    have n2 : c ≠ b + rows.length + 1 := fun z => hcn (by rw [z]; exact List.mem_cons_of_mem _ (List.mem_cons_of_mem _ List.mem_cons_self))
    refine hk c o n1 n2 (fun p hp z => hcn ?_) q
    obtain ⟨q', hq', e1, _⟩ := mkRw_like b P (rows0 rows) eP0 p hp
    rw [z, ← e1]
    exact List.mem_cons_of_mem _ (List.mem_cons_of_mem _ (List.mem_cons_of_mem _ (List.mem_map_of_mem (f := (·.1)) hq')))
  self := fun A i s Q E st h => wpAny_pyIter_zip st.z h
end Z
set_option maxRecDepth 100000
set_option maxHeartbeats 2000000
namespace Z
open PySem PySem.Spec PyProof.Rows L2
/-! ## for .. in zip(..), of two or three lists and tuples -/
def iZipN (K : PySem.W.Frag) (ta : TA) : TI := fun σ H R => ta σ H fun vs H1 => ∃ (rows : List (Bool × Addr)) (xss : List (List V)), vs = rows.map (fun r => V.ref r.2) ∧ rows ≠ [] ∧ rows.length ≤ 6 ∧ Paired (SqB K H1) rows xss ∧ R (ItN K rows) H1
theorem vals_refs_inv : ∀ {rows : List (Bool × Addr)} {us : List Value}, Vals (rows.map fun r => V.ref r.2) us → us = (rows.map (·.2)).map Value.ref
  | [], _, .nil => rfl
  | r :: rows, _, .cons h t => by
    rw [List.map_cons, List.map_cons, ← vals_refs_inv t]
    exact congrArg (· :: _) h
theorem pi_zipN {X : Cx} {e : Expr} {es : List Expr} {ta : TA} {p pos tpos : Pos} {elts : List Expr} {kk : Nat} (hg : Gl X "zip") (hm : X.mg "zip" = none) (ha : PA X (e :: es) ta)
    (hs : starEach (e :: es) X.env = (false, eval e X.env) :: starEach es X.env := by rfl) (hpl : (backTo pos (starEach es X.env)).any (·.1) = false := by rfl) :
    PI X (.Tuple elts kk tpos) (.Call (.Name "zip" p) (e :: es) [] pos) (iZipN X.K ta) := by
  refine ⟨fun pins s σ H R I h => ?_⟩
  refine Call_ (ld_blt I hg hm PyProof.Rows.boot_zip (PyProof.Rows.callWith_type1 (thn (ha.run pos pins s σ H _ I h) fun us s1 ⟨vs, H1, I1, r1, rows, xss, ev, hne, hl, hsq, q⟩ => ?_) hs hpl))
  subst ev
  have eu := vals_refs_inv r1
  subst eu
  obtain ⟨P, eP, pv, hP, hz⟩ := sqs_get I1 hsq
  have lP : P.length = rows.length := by rw [← List.length_map (f := (·.1)) (as := P), eP, List.length_map]
  have ea : (rows.map (·.2)).map Value.ref = P.map fun p => Value.ref p.1 := by rw [← eP, List.map_map]; rfl
  rw [ea]
  refine zip_begins_g (rows.map (·.1)) P (by rw [lP]; exact hl) hP fun h' N => wpAny_pyIter_zip N.z ?_
  have I2 : Inv X pins σ H1 { s1 with heap := h' } := I1.kept (t' := s1.toks) N.kp
  have hlow : ∀ r ∈ rows, r.2 < s1.heap.objs.size := fun r hr => by
    have : r.2 ∈ P.map (·.1) := eP ▸ List.mem_map_of_mem hr
    obtain ⟨p, hp, e⟩ := List.mem_map.mp this
    obtain ⟨j, hj⟩ := List.mem_iff_getElem?.mp hp
    rw [← e]; exact (hP j p hj).lt
  have eP0 : P.map (·.1) = (rows0 rows).map (·.1) := by rw [eP, rows0_fst]
  refine ⟨s1.heap.objs.size + P.length + 2, fpN rows s1.heap.objs.size, TnN rows s1.heap.objs.size, ItN X.K rows, H1, rfl, I2, ?_, ?_, fun c hc => ?_, q⟩
  · rw [lP]
    exact turn_zipN hne hl hlow
  · refine ⟨?_, ?_, ?_, fun p hp => ?_⟩
    · rw [← lP]; exact N.z
    · have := N.ti
      unfold ZTI at this ⊢
      rw [← lP, ← mkRw_fst _ P (rows0 rows) (by rw [lP]; simp [rows0])]
      exact this
    · rw [← lP]; exact ⟨_, N.to, List.length_map _⟩
    · obtain ⟨q', hq', e1, e2⟩ := mkRw_like _ (rows0 rows) P eP0.symm p hp
      have := (N.r q' hq').1
      rw [kd_eq (p := p) e1, e1, e2] at this
      exact this
  · have hle : s1.heap.objs.size ≤ c := by
      rcases List.mem_cons.mp hc with rfl | hc
      · exact Nat.le_add_right_of_le (Nat.le_add_right _ _)
      · rcases List.mem_cons.mp hc with rfl | hc
        · exact Nat.le_add_right _ _
        · rcases List.mem_cons.mp hc with rfl | hc
          · exact Nat.le_add_right_of_le (Nat.le_add_right _ _)
          · obtain ⟨p, hp, rfl⟩ := List.mem_map.mp hc
            exact (mkRw_ge _ _ p hp).1
    exact I1.fpOk hle (I1.hok.fresh hle)
/-- the items of values that are lists or tuples -/
@[simp] def seqsOf : List SV → Option (List (List PyData))
  | [] => some []
  | .d (.list xs) :: r => (seqsOf r).map (xs :: ·)
  | .d (.tuple xs) :: r => (seqsOf r).map (xs :: ·)
  | _ => none
def zipN (xss : List (List PyData)) : List PyData := (colsOf PyData.none xss).map .tuple
@[simp] def wZipN (es : Exs) (σ : Sg) (S : Sto) : Option (Res Wk) := Res.bnd (es σ S) fun vs S1 => match seqsOf vs with
  | some xss => if xss ≠ [] ∧ xss.length ≤ 6 then some (.ok ⟨zipN xss, none⟩ S1) else none
  | none => none
section
variable {K : PySem.W.Frag} {f : Ow} {H : Hp}
theorem seqs_split : ∀ {vs : List V} {svs : List SV} {xss : List (List PyData)}, Paired (SvR K f H) vs svs → seqsOf svs = some xss →
    ∃ (rows : List (Bool × Addr)) (vss : List (List V)), vs = rows.map (fun r => V.ref r.2) ∧ rows.length = xss.length ∧ (∀ (f' : Ow) (H' : Hp), Kq f H H' → Gr f f' H → Paired (SqB K H') rows vss ∧ Paired (IsAll K f' H') vss xss)
  | _, [], _, .nil, e => by cases e; exact ⟨[], [], rfl, rfl, fun _ _ _ _ => ⟨.nil, .nil⟩⟩
  | v :: vs, sv :: svs, _, .cons h t, e => by
    unfold seqsOf at e
    split at e
    · rename_i heq; cases heq
    · rename_i xs r heq
      cases heq
      cases e1 : seqsOf svs with
      | none => rw [e1] at e; cases e
      | some xss =>
        rw [e1] at e
        cases e
        obtain ⟨rows, vss, e2, l, p⟩ := seqs_split t e1
        cases h with
        | @lst a ys _ g1 g2 => exact ⟨(false, a) :: rows, ys :: vss, by simp [e2], by simp [l], fun f' H' k g => ⟨.cons (g1.keep k g).sq (p f' H' k g).1, .cons (g2.keep k g) (p f' H' k g).2⟩⟩
    · rename_i xs r heq
      cases heq
      cases e1 : seqsOf svs with
      | none => rw [e1] at e; cases e
      | some xss =>
        rw [e1] at e
        cases e
        obtain ⟨rows, vss, e2, l, p⟩ := seqs_split t e1
        cases h with
        | @tup a ys _ g1 g2 => exact ⟨(true, a) :: rows, ys :: vss, by simp [e2], by simp [l], fun f' H' k g => ⟨.cons (g1.keep k g).sq (p f' H' k g).1, .cons (g2.keep k g) (p f' H' k g).2⟩⟩
    · cases e
theorem cols_get {α : Type} {d : α} {xss : List (List α)} {i : Nat} {c : List α} (h : (colsOf d xss)[i]? = some c) : i < minL (xss.map List.length) ∧ c = xss.map fun xs => xs.getD i d := by
  unfold colsOf at h
  rw [List.getElem?_map] at h
  by_cases hi : i < minL (xss.map List.length)
  · rw [List.getElem?_range hi] at h
    cases h
    exact ⟨hi, rfl⟩
  · rw [List.getElem?_eq_none (by simpa using hi)] at h
    cases h
end
section
variable {X : Cx} {W : WX} {e : Expr} {es : List Expr} {ee : Exs} {p0 pos tpos : Pos} {elts : List Expr} {kk : Nat}
theorem di_zipN (hm : X.mg "zip" = none) (ha : DA X W (e :: es) ee) (hg : Gl X "zip" := by rfl)
    (hs : starEach (e :: es) X.env = (false, eval e X.env) :: starEach es X.env := by rfl) (hpl : (backTo pos (starEach es X.env)).any (·.1) = false := by rfl) : DI X W (.Tuple elts kk tpos) (.Call (.Name "zip" p0) (e :: es) [] pos) (wZipN ee) :=
  pi_imp (pi_zipN hg hm ha hs hpl) fun σV H R ⟨f, σ, S, r, hE, hS, hr, hq⟩ => by
    simp only [wZipN] at hr
    cases e1 : ee σ S with
    | none => rw [e1] at hr; cases hr
    | some r1 =>
      refine ⟨f, σ, S, r1, hE, hS, e1, ?_⟩
      rw [e1] at hr
      cases r1 with
      | exc x S1 =>
        cases hr
        exact hq
      | ok svs S1 =>
        intro vs H1 s1 k1 p1
        simp only [Res.bnd] at hr
        cases e2 : seqsOf svs with
        | none => rw [e2] at hr; cases hr
        | some xss =>
          rw [e2] at hr
          simp only at hr
          split at hr
          · rename_i hb
            cases hr
            obtain ⟨rows, vss, ev, lr, hp⟩ := seqs_split p1 e2
            have p0 := hp f H1 (Kq.refl _ _) (Gr.refl _ _)
            refine ⟨rows, vss, ev, fun z => hb.1 (List.eq_nil_of_length_eq_zero (by rw [← lr, z]; rfl)), by rw [lr]; exact hb.2, p0.1, hq _ H1 s1 k1 ⟨fun i d f' S' H' hd k g p s o => ?_, fun i f' S' H' hi k g p s o => ?_⟩⟩
            · have hd : (zipN xss)[i]? = some d := hd
              unfold zipN at hd
              rw [List.getElem?_map] at hd
              cases e3 : (colsOf PyData.none xss)[i]? with
              | none => rw [e3] at hd; cases hd
              | some c =>
                rw [e3] at hd
                cases hd
                obtain ⟨hi, rfl⟩ := cols_get e3
                obtain ⟨q1, q2⟩ := hp f' H' k g
                have hlt : ∀ ys ∈ vss, i < ys.length := fun ys hy => by
                  rw [← paired_lens q2] at hi
                  exact Nat.lt_of_lt_of_le hi (minL_le _ _ (List.mem_map_of_mem hy))
                refine ⟨⟨vss, q1, hlt⟩, fun x H'' ⟨T, vs', ex, nT, eH, fv⟩ => ?_⟩
                subst ex eH
                have := fv vss q1
                subst this
                exact ⟨s.laid nT, Kp.new nT, Is.tup (.inl ⟨.inl upd_same, s.free nT⟩) (IsAll.keep (Kp.new nT).q (Gr.refl _ _) (col_is q2 hlt))⟩
            · have hi : (zipN xss).length ≤ i := hi
              obtain ⟨q1, q2⟩ := hp f' H' k g
              have vne : vss.map List.length ≠ [] := by
                rw [paired_lens q2]
                exact fun z => hb.1 (List.map_eq_nil_iff.mp z)
              have hm := minL_mem _ vne
              obtain ⟨ys, hy, e4⟩ := List.mem_map.mp hm
              refine ⟨vss, q1, ys, hy, ?_⟩
              rw [e4, paired_lens q2]
              simpa [zipN, colsOf] using hi
          · cases hr
/-! ### two -/
theorem getD_of {α : Type} {l : List α} {i : Nat} {x d : α} (h : l[i]? = some x) : l.getD i d = x := by simp [List.getD, h]
theorem zipN_two (xs ys : List PyData) : zipN [xs, ys] = zipD xs ys := by
  apply List.ext_getElem?
  intro i
  unfold zipN
  rw [List.getElem?_map]
  have hl : minL ([xs, ys].map List.length) = min xs.length ys.length := rfl
  by_cases hi : i < min xs.length ys.length
  · have h1 : i < xs.length := by omega
    have h2 : i < ys.length := by omega
    have e1 : (colsOf PyData.none [xs, ys])[i]? = some [xs[i], ys[i]] := by
      unfold colsOf
      rw [List.getElem?_map, hl, List.getElem?_range hi]
      simp [List.getD, h1, h2]
    have h3 : i < (zipD xs ys).length := by rw [zipD_len]; exact hi
    obtain ⟨a, b, g1, g2, g3⟩ := zipD_get (List.getElem?_eq_getElem h3)
    rw [e1, List.getElem?_eq_getElem h3, g3]
    rw [List.getElem?_eq_getElem h1] at g1
    rw [List.getElem?_eq_getElem h2] at g2
    cases g1
    cases g2
    rfl
  · have h0 : (zipD xs ys)[i]? = none := List.getElem?_eq_none (by rw [zipD_len]; omega)
    have : (colsOf PyData.none [xs, ys])[i]? = none := List.getElem?_eq_none (by unfold colsOf; rw [List.length_map, List.length_range, hl]; omega)
    rw [this, h0]; rfl
def dsOf : SV → Option (List PyData)
  | .d (.list xs) => some xs
  | .d (.tuple xs) => some xs
  | _ => none
/-- zip of two, each a list or a tuple -/
@[simp] def wZip2 (a b : Ex) (σ : Sg) (S : Sto) : Option (Res Wk) := Res.bnd (a σ S) fun x S1 => Res.bnd (b σ S1) fun y S2 => match x, y with
  | .d (.list xs), .d (.list ys) => some (.ok ⟨zipD xs ys, none⟩ S2)
  | .d (.list xs), .d (.tuple ys) => some (.ok ⟨zipD xs ys, none⟩ S2)
  | .d (.tuple xs), .d (.list ys) => some (.ok ⟨zipD xs ys, none⟩ S2)
  | .d (.tuple xs), .d (.tuple ys) => some (.ok ⟨zipD xs ys, none⟩ S2)
  | _, _ => none
theorem wZip2_eq {a b : Ex} {σ : Sg} {S : Sto} {r : Res Wk} (h : wZip2 a b σ S = some r) : wZipN (esCons a (esCons b esNil)) σ S = some r := by
  simp only [wZip2] at h
  simp only [wZipN, esCons, esNil]
  cases ea : a σ S with
  | none => rw [ea] at h; cases h
  | some ra =>
    rw [ea] at h
    cases ra with
    | exc x S1 => simpa using h
    | ok x S1 =>
      simp only [Res.bnd] at h ⊢
      cases eb : b σ S1 with
      | none => rw [eb] at h; cases h
      | some rb =>
        rw [eb] at h
        cases rb with
        | exc y S2 => simpa using h
        | ok y S2 =>
          simp only [Res.bnd] at h ⊢
          split at h <;> cases h <;> exact (if_pos ⟨List.cons_ne_nil _ _, (Nat.le_of_ble_eq_true rfl : (2 : Nat) ≤ 6)⟩).trans (by rw [zipN_two])
theorem di_zip2 {a b : Expr} {ea eb : Ex} (hm : X.mg "zip" = none) (ha : DE X W a ea) (hb : DE X W b eb) (hg : Gl X "zip" := by rfl)
    (hs : starEach [a, b] X.env = (false, eval a X.env) :: starEach [b] X.env := by rfl) (hs2 : starEach [b] X.env = (false, eval b X.env) :: starEach [] X.env := by rfl) (hpl : (backTo pos (starEach [b] X.env)).any (·.1) = false := by rfl) :
    DI X W (.Tuple elts kk tpos) (.Call (.Name "zip" p0) [a, b] [] pos) (wZip2 ea eb) :=
  Z.pi_imp (di_zipN hm (da_cons ha (da_cons hb da_nil hs2) hs) hg hs hpl) fun σV H R ⟨f, σ, S, r, hE, hS, hr, hq⟩ => ⟨f, σ, S, r, hE, hS, wZip2_eq hr, hq⟩
end
end Z
set_option maxRecDepth 100000
namespace T
open PySem PySem.Spec PyProof.Rows L2 Z
def topS (i : Nat) : Stmt := PySem.Challenge.pw_wordlaws_k14_whole_products.main.body.getD i (.Pass ⟨0, 0, 0, 0⟩)
abbrev so_l_IndexError : Subs := [((Str.ofString "InvalidWidth"), false), ((Str.ofString "InvalidVector"), false), ((Str.ofString "InvalidMatrix"), false)]
abbrev so_l_InvalidMatrix : Subs := [((Str.ofString "InvalidWidth"), false), ((Str.ofString "InvalidVector"), false), ((Str.ofString "InvalidMatrix"), true)]
abbrev so_l_InvalidNumber : Subs := [((Str.ofString "InvalidWidth"), false), ((Str.ofString "InvalidVector"), false), ((Str.ofString "InvalidMatrix"), false)]
abbrev so_l_InvalidVector : Subs := [((Str.ofString "InvalidWidth"), false), ((Str.ofString "InvalidVector"), true), ((Str.ofString "InvalidMatrix"), false)]
abbrev so_l_InvalidWidth : Subs := [((Str.ofString "InvalidWidth"), true), ((Str.ofString "InvalidVector"), false), ((Str.ofString "InvalidMatrix"), false)]
abbrev so_l_WordsError : Subs := [((Str.ofString "InvalidWidth"), true), ((Str.ofString "InvalidVector"), true), ((Str.ofString "InvalidMatrix"), true)]
section
variable {P : Program} {w : World} {K : PySem.W.Frag} {mg : Str → Option Value} {base : Heap}
/-! ### fits_bounds -/
abbrev st_fits_bounds : Stmt := topS 9
abbrev n_fits_bounds : List Str := [(Str.ofString "value"), (Str.ofString "low"), (Str.ofString "high")]
theorem sc_fits_bounds : FnScope n_fits_bounds [(Str.ofString "value"), (Str.ofString "low"), (Str.ofString "high")] (defScope st_fits_bounds) := ⟨rfl, rfl, rfl, by decide +kernel, rfl, by decide +kernel, by decide +kernel⟩
noncomputable def m_fits_bounds : Sm :=
    (sRet (eAnd (eIsi "int" (eVar 0)) (eAnd (eNot (eIsi "bool" (eVar 0))) (eChain pLe pLe (eVar 1) (eVar 0) (eVar 2)))))
noncomputable def f_fits_bounds : Fn := fun args S => if args.length = 3 then fnRun 0 (m_fits_bounds ) args S else none
theorem ok_fits_bounds (nb : NB mg) {f : Addr} {fd : FuncData} (F : Fun K (Str.ofString "fits_bounds") (Str.ofString "fits_bounds") st_fits_bounds f fd) (hm : mg (Str.ofString "fits_bounds") = some (.ref f)) : FnG P w K mg base 1 (Str.ofString "fits_bounds") f_fits_bounds :=
  fn_def (m := m_fits_bounds ) F hm sc_fits_bounds rfl (fun _ _ _ _ _ _ us hl => match us, hl with | [_, _, _], _ => rfl) fun cdv A outer s H E g =>
    (db_one (ds_ret (de_and (de_isi (n := "int") (by decide) nb.isinstance nb.int bt_int (de_var 0)) (de_and (de_not (de_isi (n := "bool") (by decide) nb.isinstance nb.bool bt_bool (de_var 0))) (de_one (de_chLeLe (de_var 1) (de_var 0) (de_var 2)))))))
/-! ### is_width -/
abbrev st_is_width : Stmt := topS 8
abbrev n_is_width : List Str := [(Str.ofString "value")]
theorem sc_is_width : FnScope n_is_width [(Str.ofString "value")] (defScope st_is_width) := ⟨rfl, rfl, rfl, by decide +kernel, rfl, by decide +kernel, by decide +kernel⟩
noncomputable def m_is_width : Sm :=
    (sRet (eCall f_fits_bounds (esCons (eVar 0) (esCons (eLit (.int 1)) (esCons (eLit (.int 16)) esNil)))))
noncomputable def f_is_width : Fn := fun args S => if args.length = 1 then fnRun 0 (m_is_width ) args S else none
theorem ok_is_width (nb : NB mg) (h_fits_bounds : FnG P w K mg base 1 (Str.ofString "fits_bounds") f_fits_bounds) (c_MAX_WIDTH : Σ' t, mg (Str.ofString "MAX_WIDTH") = some (.int 16 t)) {f : Addr} {fd : FuncData} (F : Fun K (Str.ofString "is_width") (Str.ofString "is_width") st_is_width f fd) (hm : mg (Str.ofString "is_width") = some (.ref f)) : FnG P w K mg base 2 (Str.ofString "is_width") f_is_width :=
  fn_def (m := m_is_width ) F hm sc_is_width rfl (fun _ _ _ _ _ _ us hl => match us, hl with | [_], _ => rfl) fun cdv A outer s H E g =>
    (db_one (ds_ret (de_call g (h_fits_bounds.mono (by decide)) (da_cons (de_var 0) (da_cons de_int (da_cons (de_globI c_MAX_WIDTH.2) da_nil))))))
/-! ### fits_word -/
abbrev st_fits_word : Stmt := topS 10
abbrev n_fits_word : List Str := [(Str.ofString "width"), (Str.ofString "value")]
theorem sc_fits_word : FnScope n_fits_word [(Str.ofString "width"), (Str.ofString "value")] (defScope st_fits_word) := ⟨rfl, rfl, rfl, by decide +kernel, rfl, by decide +kernel, by decide +kernel⟩
noncomputable def m_fits_word : Sm :=
    (sRet (eCall f_fits_bounds (esCons (eVar 1) (esCons (eLit (.int 0)) (esCons (eBin pSub (eBin pShl (eLit (.int 1)) (eVar 0)) (eLit (.int 1))) esNil)))))
noncomputable def f_fits_word : Fn := fun args S => if args.length = 2 then fnRun 0 (m_fits_word ) args S else none
theorem ok_fits_word (nb : NB mg) (h_fits_bounds : FnG P w K mg base 1 (Str.ofString "fits_bounds") f_fits_bounds) {f : Addr} {fd : FuncData} (F : Fun K (Str.ofString "fits_word") (Str.ofString "fits_word") st_fits_word f fd) (hm : mg (Str.ofString "fits_word") = some (.ref f)) : FnG P w K mg base 2 (Str.ofString "fits_word") f_fits_word :=
  fn_def (m := m_fits_word ) F hm sc_fits_word rfl (fun _ _ _ _ _ _ us hl => match us, hl with | [_, _], _ => rfl) fun cdv A outer s H E g =>
    (db_one (ds_ret (de_call g (h_fits_bounds.mono (by decide)) (da_cons (de_var 1) (da_cons de_int (da_cons (de_sub (de_shl de_int (de_var 0)) de_int) da_nil))))))
/-! ### fits_words -/
abbrev st_fits_words : Stmt := topS 11
abbrev n_fits_words : List Str := [(Str.ofString "width"), (Str.ofString "count"), (Str.ofString "value"), (Str.ofString "entry")]
theorem sc_fits_words : FnScope n_fits_words [(Str.ofString "width"), (Str.ofString "count"), (Str.ofString "value")] (defScope st_fits_words) := ⟨rfl, rfl, rfl, by decide +kernel, rfl, by decide +kernel, by decide +kernel⟩
noncomputable def m_fits_words : Sm :=
    (sRet (eAnd (eIsi "tuple" (eVar 2)) (eAnd (eBin pEq (eCa pLen (esCons (eVar 2) esNil)) (eVar 1)) (eCa pAll (esCons (eComp (wSeq (eVar 2)) (gVar 3) tTrue (eCall f_fits_word (esCons (eVar 0) (esCons (eVar 3) esNil))) [3]) esNil)))))
noncomputable def f_fits_words : Fn := fun args S => if args.length = 3 then fnRun 1 (m_fits_words ) args S else none
theorem ok_fits_words (nb : NB mg) (h_fits_word : FnG P w K mg base 2 (Str.ofString "fits_word") f_fits_word) {f : Addr} {fd : FuncData} (F : Fun K (Str.ofString "fits_words") (Str.ofString "fits_words") st_fits_words f fd) (hm : mg (Str.ofString "fits_words") = some (.ref f)) : FnG P w K mg base 3 (Str.ofString "fits_words") f_fits_words :=
  fn_def (m := m_fits_words ) F hm sc_fits_words rfl (fun _ _ _ _ _ _ us hl => match us, hl with | [_, _, _], _ => rfl) fun cdv A outer s H E g =>
    (db_one (ds_ret (de_and (de_isi (n := "tuple") (by decide) nb.isinstance nb.tuple bt_tuple (de_var 2)) (de_and (de_eq g.q (c_len nb.len (de_var 2)) (de_var 1)) (de_one (c_all g nb.all (de_comp g.calm g.nd (di_seq (de_var 2)) (blkOk_by (own := [((Str.ofString "entry"), 3)]) (N := n_fits_words) (sc := defScope st_fits_words) (by decide +kernel)) (by decide) (fun s H C cl fp => (dg_var (g.blk s H _ _ fp).nd)) (fun s H C cl fp => dts_nil) (fun s H C cl fp => (de_call (g.blk s H _ _ fp) (h_fits_word.mono (by decide)) (da_cons (de_var 0) (da_cons (de_var 3) da_nil)))))))))))
/-! ### fits_vector -/
abbrev st_fits_vector : Stmt := topS 12
abbrev n_fits_vector : List Str := [(Str.ofString "width"), (Str.ofString "size"), (Str.ofString "value")]
theorem sc_fits_vector : FnScope n_fits_vector [(Str.ofString "width"), (Str.ofString "size"), (Str.ofString "value")] (defScope st_fits_vector) := ⟨rfl, rfl, rfl, by decide +kernel, rfl, by decide +kernel, by decide +kernel⟩
noncomputable def m_fits_vector : Sm :=
    (sRet (eCall f_fits_words (esCons (eVar 0) (esCons (eVar 1) (esCons (eVar 2) esNil)))))
noncomputable def f_fits_vector : Fn := fun args S => if args.length = 3 then fnRun 0 (m_fits_vector ) args S else none
theorem ok_fits_vector (nb : NB mg) (h_fits_words : FnG P w K mg base 3 (Str.ofString "fits_words") f_fits_words) {f : Addr} {fd : FuncData} (F : Fun K (Str.ofString "fits_vector") (Str.ofString "fits_vector") st_fits_vector f fd) (hm : mg (Str.ofString "fits_vector") = some (.ref f)) : FnG P w K mg base 4 (Str.ofString "fits_vector") f_fits_vector :=
  fn_def (m := m_fits_vector ) F hm sc_fits_vector rfl (fun _ _ _ _ _ _ us hl => match us, hl with | [_, _, _], _ => rfl) fun cdv A outer s H E g =>
    (db_one (ds_ret (de_call g (h_fits_words.mono (by decide)) (da_cons (de_var 0) (da_cons (de_var 1) (da_cons (de_var 2) da_nil))))))
/-! ### fits_vectors -/
abbrev st_fits_vectors : Stmt := topS 13
abbrev n_fits_vectors : List Str := [(Str.ofString "width"), (Str.ofString "size"), (Str.ofString "value"), (Str.ofString "vector")]
theorem sc_fits_vectors : FnScope n_fits_vectors [(Str.ofString "width"), (Str.ofString "size"), (Str.ofString "value")] (defScope st_fits_vectors) := ⟨rfl, rfl, rfl, by decide +kernel, rfl, by decide +kernel, by decide +kernel⟩
noncomputable def m_fits_vectors : Sm :=
    (sRet (eAnd (eIsi "tuple" (eVar 2)) (eCa pAll (esCons (eComp (wSeq (eVar 2)) (gVar 3) tTrue (eCall f_fits_vector (esCons (eVar 0) (esCons (eVar 1) (esCons (eVar 3) esNil)))) [3]) esNil))))
noncomputable def f_fits_vectors : Fn := fun args S => if args.length = 3 then fnRun 1 (m_fits_vectors ) args S else none
theorem ok_fits_vectors (nb : NB mg) (h_fits_vector : FnG P w K mg base 4 (Str.ofString "fits_vector") f_fits_vector) {f : Addr} {fd : FuncData} (F : Fun K (Str.ofString "fits_vectors") (Str.ofString "fits_vectors") st_fits_vectors f fd) (hm : mg (Str.ofString "fits_vectors") = some (.ref f)) : FnG P w K mg base 5 (Str.ofString "fits_vectors") f_fits_vectors :=
  fn_def (m := m_fits_vectors ) F hm sc_fits_vectors rfl (fun _ _ _ _ _ _ us hl => match us, hl with | [_, _, _], _ => rfl) fun cdv A outer s H E g =>
    (db_one (ds_ret (de_and (de_isi (n := "tuple") (by decide) nb.isinstance nb.tuple bt_tuple (de_var 2)) (de_one (c_all g nb.all (de_comp g.calm g.nd (di_seq (de_var 2)) (blkOk_by (own := [((Str.ofString "vector"), 3)]) (N := n_fits_vectors) (sc := defScope st_fits_vectors) (by decide +kernel)) (by decide) (fun s H C cl fp => (dg_var (g.blk s H _ _ fp).nd)) (fun s H C cl fp => dts_nil) (fun s H C cl fp => (de_call (g.blk s H _ _ fp) (h_fits_vector.mono (by decide)) (da_cons (de_var 0) (da_cons (de_var 1) (da_cons (de_var 3) da_nil)))))))))))
/-! ### need_width -/
abbrev st_need_width : Stmt := topS 14
abbrev n_need_width : List Str := [(Str.ofString "value")]
theorem sc_need_width : FnScope n_need_width [(Str.ofString "value")] (defScope st_need_width) := ⟨rfl, rfl, rfl, by decide +kernel, rfl, by decide +kernel, by decide +kernel⟩
noncomputable def m_need_width : Sm :=
    (sIf (tNt (tVal (eCall f_is_width (esCons (eVar 0) esNil)))) (sRaise (Str.ofString "InvalidWidth") (eLit (.str (Str.ofString "a width is an integer from 1 to 16")))) sNil)
noncomputable def f_need_width : Fn := fun args S => if args.length = 1 then fnRun 0 (m_need_width ) args S else none
theorem ok_need_width (nb : NB mg) (h_is_width : FnG P w K mg base 2 (Str.ofString "is_width") f_is_width) (mc_InvalidWidth : MsgC K mg (Str.ofString "InvalidWidth")) {f : Addr} {fd : FuncData} (F : Fun K (Str.ofString "need_width") (Str.ofString "need_width") st_need_width f fd) (hm : mg (Str.ofString "need_width") = some (.ref f)) : FnG P w K mg base 3 (Str.ofString "need_width") f_need_width :=
  fn_def (m := m_need_width ) F hm sc_need_width rfl (fun _ _ _ _ _ _ us hl => match us, hl with | [_], _ => rfl) fun cdv A outer s H E g =>
    (db_one (ds_if (dt_not (dt_val (de_call g (h_is_width.mono (by decide)) (da_cons (de_var 0) da_nil)))) (db_one (ds_raise g mc_InvalidWidth de_str)) db_nil))
/-! ### need_vector -/
abbrev st_need_vector : Stmt := topS 15
abbrev n_need_vector : List Str := [(Str.ofString "width"), (Str.ofString "size"), (Str.ofString "value")]
theorem sc_need_vector : FnScope n_need_vector [(Str.ofString "width"), (Str.ofString "size"), (Str.ofString "value")] (defScope st_need_vector) := ⟨rfl, rfl, rfl, by decide +kernel, rfl, by decide +kernel, by decide +kernel⟩
noncomputable def m_need_vector : Sm :=
    (sIf (tNt (tVal (eCall f_fits_vector (esCons (eVar 0) (esCons (eVar 1) (esCons (eVar 2) esNil)))))) (sRaise (Str.ofString "InvalidVector") (eJoin [(eLit (.str (Str.ofString "a vector of size "))), (eUn pFmt (eVar 1)), (eLit (.str (Str.ofString " is a tuple of "))), (eUn pFmt (eVar 1)), (eLit (.str (Str.ofString " words of width "))), (eUn pFmt (eVar 0))])) sNil)
noncomputable def f_need_vector : Fn := fun args S => if args.length = 3 then fnRun 0 (m_need_vector ) args S else none
theorem ok_need_vector (nb : NB mg) (h_fits_vector : FnG P w K mg base 4 (Str.ofString "fits_vector") f_fits_vector) (mc_InvalidVector : MsgC K mg (Str.ofString "InvalidVector")) {f : Addr} {fd : FuncData} (F : Fun K (Str.ofString "need_vector") (Str.ofString "need_vector") st_need_vector f fd) (hm : mg (Str.ofString "need_vector") = some (.ref f)) : FnG P w K mg base 5 (Str.ofString "need_vector") f_need_vector :=
  fn_def (m := m_need_vector ) F hm sc_need_vector rfl (fun _ _ _ _ _ _ us hl => match us, hl with | [_, _, _], _ => rfl) fun cdv A outer s H E g =>
    (db_one (ds_if (dt_not (dt_val (de_call g (h_fits_vector.mono (by decide)) (da_cons (de_var 0) (da_cons (de_var 1) (da_cons (de_var 2) da_nil)))))) (db_one (ds_raise g mc_InvalidVector (de_join (.cons de_str (.cons (de_fmt (de_var 1)) (.cons de_str (.cons (de_fmt (de_var 1)) (.cons de_str (.cons (de_fmt (de_var 0)) .nil))))))))) db_nil))
/-! ### dot -/
abbrev st_dot : Stmt := topS 16
abbrev n_dot : List Str := [(Str.ofString "width"), (Str.ofString "first"), (Str.ofString "second"), (Str.ofString "mask"), (Str.ofString "x"), (Str.ofString "y")]
theorem sc_dot : FnScope n_dot [(Str.ofString "width"), (Str.ofString "first"), (Str.ofString "second")] (defScope st_dot) := ⟨rfl, rfl, rfl, by decide +kernel, rfl, by decide +kernel, by decide +kernel⟩
noncomputable def m_dot : Sm :=
    (sSeq (sSet 3 (eBin pSub (eBin pShl (eLit (.int 1)) (eVar 0)) (eLit (.int 1))))
    (sRet (eBin pAnd (eCa pSum (esCons (eComp (wZip2 (eVar 1) (eVar 2)) (gPair (gVar 4) (gVar 5)) tTrue (eBin pTimes (eVar 4) (eVar 5)) [4, 5]) esNil)) (eVar 3))))
noncomputable def f_dot : Fn := fun args S => if args.length = 3 then fnRun 3 (m_dot ) args S else none
theorem ok_dot (nb : NB mg) {f : Addr} {fd : FuncData} (F : Fun K (Str.ofString "dot") (Str.ofString "dot") st_dot f fd) (hm : mg (Str.ofString "dot") = some (.ref f)) : FnG P w K mg base 1 (Str.ofString "dot") f_dot :=
  fn_def (m := m_dot ) F hm sc_dot rfl (fun _ _ _ _ _ _ us hl => match us, hl with | [_, _, _], _ => rfl) fun cdv A outer s H E g =>
    (db_cons (s_set g.q (de_sub (de_shl de_int (de_var 0)) de_int))
    (db_one (ds_ret (de_and_ (c_sum g nb.sum (de_comp g.calm g.nd (di_zip2 nb.zip (de_var 1) (de_var 2)) (blkOk_by (own := [((Str.ofString "x"), 4), ((Str.ofString "y"), 5)]) (N := n_dot) (sc := defScope st_dot) (by decide +kernel)) (by decide) (fun s H C cl fp => (dg_pair (g.blk s H _ _ fp).calm (dg_var (g.blk s H _ _ fp).nd) (dg_var (g.blk s H _ _ fp).nd))) (fun s H C cl fp => dts_nil) (fun s H C cl fp => (de_times (de_var 4) (de_var 5))))) (de_var 3)))))
/-! ### fits_side -/
abbrev st_fits_side : Stmt := topS 21
abbrev n_fits_side : List Str := [(Str.ofString "value")]
theorem sc_fits_side : FnScope n_fits_side [(Str.ofString "value")] (defScope st_fits_side) := ⟨rfl, rfl, rfl, by decide +kernel, rfl, by decide +kernel, by decide +kernel⟩
noncomputable def m_fits_side : Sm :=
    (sRet (eCall f_fits_bounds (esCons (eVar 0) (esCons (eLit (.int 1)) (esCons (eLit (.int 5)) esNil)))))
noncomputable def f_fits_side : Fn := fun args S => if args.length = 1 then fnRun 0 (m_fits_side ) args S else none
theorem ok_fits_side (nb : NB mg) (h_fits_bounds : FnG P w K mg base 1 (Str.ofString "fits_bounds") f_fits_bounds) (c_MAX_SIDE : Σ' t, mg (Str.ofString "MAX_SIDE") = some (.int 5 t)) {f : Addr} {fd : FuncData} (F : Fun K (Str.ofString "fits_side") (Str.ofString "fits_side") st_fits_side f fd) (hm : mg (Str.ofString "fits_side") = some (.ref f)) : FnG P w K mg base 2 (Str.ofString "fits_side") f_fits_side :=
  fn_def (m := m_fits_side ) F hm sc_fits_side rfl (fun _ _ _ _ _ _ us hl => match us, hl with | [_], _ => rfl) fun cdv A outer s H E g =>
    (db_one (ds_ret (de_call g (h_fits_bounds.mono (by decide)) (da_cons (de_var 0) (da_cons de_int (da_cons (de_globI c_MAX_SIDE.2) da_nil))))))
/-! ### fits_any_matrix -/
abbrev st_fits_any_matrix : Stmt := topS 23
abbrev n_fits_any_matrix : List Str := [(Str.ofString "width"), (Str.ofString "value"), (Str.ofString "first")]
theorem sc_fits_any_matrix : FnScope n_fits_any_matrix [(Str.ofString "width"), (Str.ofString "value")] (defScope st_fits_any_matrix) := ⟨rfl, rfl, rfl, by decide +kernel, rfl, by decide +kernel, by decide +kernel⟩
noncomputable def m_fits_any_matrix : Sm :=
    (sSeq (sIf (tOr_ (tNt (tVal (eIsi "tuple" (eVar 1)))) (tNt (tVal (eCall f_fits_side (esCons (eCa pLen (esCons (eVar 1) esNil)) esNil))))) (sRet (eLit (.bool false))) sNil)
    (sSeq (sSet 2 (eBin pIx (eVar 1) (eLit (.int 0))))
    (sRet (eAnd (eIsi "tuple" (eVar 2)) (eAnd (eCall f_fits_side (esCons (eCa pLen (esCons (eVar 2) esNil)) esNil)) (eCall f_fits_vectors (esCons (eVar 0) (esCons (eCa pLen (esCons (eVar 2) esNil)) (esCons (eVar 1) esNil)))))))))
noncomputable def f_fits_any_matrix : Fn := fun args S => if args.length = 2 then fnRun 1 (m_fits_any_matrix ) args S else none
theorem ok_fits_any_matrix (nb : NB mg) (h_fits_vectors : FnG P w K mg base 5 (Str.ofString "fits_vectors") f_fits_vectors) (h_fits_side : FnG P w K mg base 2 (Str.ofString "fits_side") f_fits_side) {f : Addr} {fd : FuncData} (F : Fun K (Str.ofString "fits_any_matrix") (Str.ofString "fits_any_matrix") st_fits_any_matrix f fd) (hm : mg (Str.ofString "fits_any_matrix") = some (.ref f)) : FnG P w K mg base 6 (Str.ofString "fits_any_matrix") f_fits_any_matrix :=
  fn_def (m := m_fits_any_matrix ) F hm sc_fits_any_matrix rfl (fun _ _ _ _ _ _ us hl => match us, hl with | [_, _], _ => rfl) fun cdv A outer s H E g =>
    (db_cons (ds_if (dt_w (dw_or (dt_not (dt_val (de_isi (n := "tuple") (by decide) nb.isinstance nb.tuple bt_tuple (de_var 1)))) (dw_or1 (dt_not (dt_val (de_call g (h_fits_side.mono (by decide)) (da_cons (c_len nb.len (de_var 1)) da_nil))))))) (db_one (ds_ret de_bl)) db_nil)
    (db_cons (s_set g.q (de_ix (de_var 1) de_int))
    (db_one (ds_ret (de_and (de_isi (n := "tuple") (by decide) nb.isinstance nb.tuple bt_tuple (de_var 2)) (de_and (de_call g (h_fits_side.mono (by decide)) (da_cons (c_len nb.len (de_var 2)) da_nil)) (de_one (de_call g (h_fits_vectors.mono (by decide)) (da_cons (de_var 0) (da_cons (c_len nb.len (de_var 2)) (da_cons (de_var 1) da_nil)))))))))))
/-! ### need_matrix -/
abbrev st_need_matrix : Stmt := topS 22
abbrev n_need_matrix : List Str := [(Str.ofString "width"), (Str.ofString "value")]
theorem sc_need_matrix : FnScope n_need_matrix [(Str.ofString "width"), (Str.ofString "value")] (defScope st_need_matrix) := ⟨rfl, rfl, rfl, by decide +kernel, rfl, by decide +kernel, by decide +kernel⟩
noncomputable def m_need_matrix : Sm :=
    (sIf (tNt (tVal (eCall f_fits_any_matrix (esCons (eVar 0) (esCons (eVar 1) esNil))))) (sRaise (Str.ofString "InvalidMatrix") (eLit (.str (Str.ofString "a matrix is a tuple of 1 to 5 vectors of one size from 1 to 5")))) sNil)
noncomputable def f_need_matrix : Fn := fun args S => if args.length = 2 then fnRun 0 (m_need_matrix ) args S else none
theorem ok_need_matrix (nb : NB mg) (h_fits_any_matrix : FnG P w K mg base 6 (Str.ofString "fits_any_matrix") f_fits_any_matrix) (mc_InvalidMatrix : MsgC K mg (Str.ofString "InvalidMatrix")) {f : Addr} {fd : FuncData} (F : Fun K (Str.ofString "need_matrix") (Str.ofString "need_matrix") st_need_matrix f fd) (hm : mg (Str.ofString "need_matrix") = some (.ref f)) : FnG P w K mg base 7 (Str.ofString "need_matrix") f_need_matrix :=
  fn_def (m := m_need_matrix ) F hm sc_need_matrix rfl (fun _ _ _ _ _ _ us hl => match us, hl with | [_, _], _ => rfl) fun cdv A outer s H E g =>
    (db_one (ds_if (dt_not (dt_val (de_call g (h_fits_any_matrix.mono (by decide)) (da_cons (de_var 0) (da_cons (de_var 1) da_nil))))) (db_one (ds_raise g mc_InvalidMatrix de_str)) db_nil))
/-! ### times_vector -/
abbrev st_times_vector : Stmt := topS 24
abbrev n_times_vector : List Str := [(Str.ofString "width"), (Str.ofString "matrix"), (Str.ofString "vector"), (Str.ofString "row")]
theorem sc_times_vector : FnScope n_times_vector [(Str.ofString "width"), (Str.ofString "matrix"), (Str.ofString "vector")] (defScope st_times_vector) := ⟨rfl, rfl, rfl, by decide +kernel, rfl, by decide +kernel, by decide +kernel⟩
noncomputable def m_times_vector : Sm :=
    (sRet (eCa pTupOf (esCons (eComp (wSeq (eVar 1)) (gVar 3) tTrue (eCall f_dot (esCons (eVar 0) (esCons (eVar 3) (esCons (eVar 2) esNil)))) [3]) esNil)))
noncomputable def f_times_vector : Fn := fun args S => if args.length = 3 then fnRun 1 (m_times_vector ) args S else none
theorem ok_times_vector (nb : NB mg) (h_dot : FnG P w K mg base 1 (Str.ofString "dot") f_dot) {f : Addr} {fd : FuncData} (F : Fun K (Str.ofString "times_vector") (Str.ofString "times_vector") st_times_vector f fd) (hm : mg (Str.ofString "times_vector") = some (.ref f)) : FnG P w K mg base 2 (Str.ofString "times_vector") f_times_vector :=
  fn_def (m := m_times_vector ) F hm sc_times_vector rfl (fun _ _ _ _ _ _ us hl => match us, hl with | [_, _, _], _ => rfl) fun cdv A outer s H E g =>
    (db_one (ds_ret (c_tuple nb.tuple (de_comp g.calm g.nd (di_seq (de_var 1)) (blkOk_by (own := [((Str.ofString "row"), 3)]) (N := n_times_vector) (sc := defScope st_times_vector) (by decide +kernel)) (by decide) (fun s H C cl fp => (dg_var (g.blk s H _ _ fp).nd)) (fun s H C cl fp => dts_nil) (fun s H C cl fp => (de_call (g.blk s H _ _ fp) (h_dot.mono (by decide)) (da_cons (de_var 0) (da_cons (de_var 3) (da_cons (de_var 2) da_nil)))))))))
/-! ### matrix_times -/
abbrev st_matrix_times : Stmt := topS 19
abbrev n_matrix_times : List Str := [(Str.ofString "width"), (Str.ofString "matrix"), (Str.ofString "vector")]
theorem sc_matrix_times : FnScope n_matrix_times [(Str.ofString "width"), (Str.ofString "matrix"), (Str.ofString "vector")] (defScope st_matrix_times) := ⟨rfl, rfl, rfl, by decide +kernel, rfl, by decide +kernel, by decide +kernel⟩
noncomputable def m_matrix_times : Sm :=
    (sSeq (sDo (eCall f_need_width (esCons (eVar 0) esNil)))
    (sSeq (sDo (eCall f_need_matrix (esCons (eVar 0) (esCons (eVar 1) esNil))))
    (sSeq (sDo (eCall f_need_vector (esCons (eVar 0) (esCons (eCa pLen (esCons (eBin pIx (eVar 1) (eLit (.int 0))) esNil)) (esCons (eVar 2) esNil)))))
    (sRet (eCall f_times_vector (esCons (eVar 0) (esCons (eVar 1) (esCons (eVar 2) esNil))))))))
noncomputable def f_matrix_times : Fn := fun args S => if args.length = 3 then fnRun 0 (m_matrix_times ) args S else none
theorem ok_matrix_times (nb : NB mg) (h_need_width : FnG P w K mg base 3 (Str.ofString "need_width") f_need_width) (h_need_vector : FnG P w K mg base 5 (Str.ofString "need_vector") f_need_vector) (h_need_matrix : FnG P w K mg base 7 (Str.ofString "need_matrix") f_need_matrix) (h_times_vector : FnG P w K mg base 2 (Str.ofString "times_vector") f_times_vector) {f : Addr} {fd : FuncData} (F : Fun K (Str.ofString "matrix_times") (Str.ofString "matrix_times") st_matrix_times f fd) (hm : mg (Str.ofString "matrix_times") = some (.ref f)) : FnG P w K mg base 8 (Str.ofString "matrix_times") f_matrix_times :=
  fn_def (m := m_matrix_times ) F hm sc_matrix_times rfl (fun _ _ _ _ _ _ us hl => match us, hl with | [_, _, _], _ => rfl) fun cdv A outer s H E g =>
    (db_cons (ds_do (de_call g (h_need_width.mono (by decide)) (da_cons (de_var 0) da_nil)))
    (db_cons (ds_do (de_call g (h_need_matrix.mono (by decide)) (da_cons (de_var 0) (da_cons (de_var 1) da_nil))))
    (db_cons (ds_do (de_call g (h_need_vector.mono (by decide)) (da_cons (de_var 0) (da_cons (c_len nb.len (de_ix (de_var 1) de_int)) (da_cons (de_var 2) da_nil)))))
    (db_one (ds_ret (de_call g (h_times_vector.mono (by decide)) (da_cons (de_var 0) (da_cons (de_var 1) (da_cons (de_var 2) da_nil)))))))))
/-! ### times_matrix -/
abbrev st_times_matrix : Stmt := topS 25
abbrev n_times_matrix : List Str := [(Str.ofString "width"), (Str.ofString "first"), (Str.ofString "second"), (Str.ofString "columns"), (Str.ofString "row")]
theorem sc_times_matrix : FnScope n_times_matrix [(Str.ofString "width"), (Str.ofString "first"), (Str.ofString "second")] (defScope st_times_matrix) := ⟨rfl, rfl, rfl, by decide +kernel, rfl, by decide +kernel, by decide +kernel⟩
noncomputable def m_times_matrix : Sm :=
    (sSeq (sSet 3 (eUn pZipS (eVar 2)))
    (sRet (eCa pTupOf (esCons (eComp (wSeq (eVar 1)) (gVar 4) tTrue (eCall f_times_vector (esCons (eVar 0) (esCons (eVar 3) (esCons (eVar 4) esNil)))) [4]) esNil))))
noncomputable def f_times_matrix : Fn := fun args S => if args.length = 3 then fnRun 2 (m_times_matrix ) args S else none
theorem ok_times_matrix (nb : NB mg) (h_times_vector : FnG P w K mg base 2 (Str.ofString "times_vector") f_times_vector) {f : Addr} {fd : FuncData} (F : Fun K (Str.ofString "times_matrix") (Str.ofString "times_matrix") st_times_matrix f fd) (hm : mg (Str.ofString "times_matrix") = some (.ref f)) : FnG P w K mg base 3 (Str.ofString "times_matrix") f_times_matrix :=
  fn_def (m := m_times_matrix ) F hm sc_times_matrix rfl (fun _ _ _ _ _ _ us hl => match us, hl with | [_, _, _], _ => rfl) fun cdv A outer s H E g =>
    (db_cons (s_set g.q (de_listZipS g.calm nb.list nb.zip (de_var 2)))
    (db_one (ds_ret (c_tuple nb.tuple (de_comp g.calm g.nd (di_seq (de_var 1)) (blkOk_by (own := [((Str.ofString "row"), 4)]) (N := n_times_matrix) (sc := defScope st_times_matrix) (by decide +kernel)) (by decide) (fun s H C cl fp => (dg_var (g.blk s H _ _ fp).nd)) (fun s H C cl fp => dts_nil) (fun s H C cl fp => (de_call (g.blk s H _ _ fp) (h_times_vector.mono (by decide)) (da_cons (de_var 0) (da_cons (de_var 3) (da_cons (de_var 4) da_nil))))))))))
/-! ### matrix_product -/
abbrev st_matrix_product : Stmt := topS 20
abbrev n_matrix_product : List Str := [(Str.ofString "width"), (Str.ofString "matrices"), (Str.ofString "matrix"), (Str.ofString "first"), (Str.ofString "second"), (Str.ofString "done")]
theorem sc_matrix_product : FnScope n_matrix_product ([(Str.ofString "width")] ++ [(Str.ofString "matrices")]) (defScope st_matrix_product) := ⟨rfl, rfl, rfl, by decide +kernel, rfl, by decide +kernel, by decide +kernel⟩
noncomputable def m_matrix_product : Sm :=
    (sSeq (sDo (eCall f_need_width (esCons (eVar 0) esNil)))
    (sSeq (sIf (tNt (tTru (eVar 1))) (sRaise (Str.ofString "InvalidMatrix") (eLit (.str (Str.ofString "there is no matrix")))) sNil)
    (sSeq (sFor (wSeq (eVar 1)) (gVar 2) (sDo (eCall f_need_matrix (esCons (eVar 0) (esCons (eVar 2) esNil)))))
    (sSeq (sFor (wZip2 (eVar 1) (eSl (eVar 1) (poS (eLit (.int 1))) poN)) (gPair (gVar 3) (gVar 4)) (sIf (tVal (eBin pNe (eCa pLen (esCons (eVar 4) esNil)) (eCa pLen (esCons (eBin pIx (eVar 3) (eLit (.int 0))) esNil)))) (sRaise (Str.ofString "InvalidMatrix") (eLit (.str (Str.ofString "a matrix has as many rows as the one before it has columns")))) sNil))
    (sSeq (sSet 5 (eBin pIx (eVar 1) (eLit (.int 0))))
    (sSeq (sFor (wSeq (eSl (eVar 1) (poS (eLit (.int 1))) poN)) (gVar 2) (sSet 5 (eCall f_times_matrix (esCons (eVar 0) (esCons (eVar 5) (esCons (eVar 2) esNil))))))
    (sRet (eVar 5))))))))
noncomputable def f_matrix_product : Fn := fun args S => if 1 ≤ args.length then (dats (args.drop 1)).bind fun ds => if ds.length ≤ sizeLine then fnRun 4 (m_matrix_product ) (args.take 1 ++ [.d (.tuple ds)]) S else none else none
theorem ok_matrix_product (nb : NB mg) (h_need_width : FnG P w K mg base 3 (Str.ofString "need_width") f_need_width) (h_need_matrix : FnG P w K mg base 7 (Str.ofString "need_matrix") f_need_matrix) (h_times_matrix : FnG P w K mg base 3 (Str.ofString "times_matrix") f_times_matrix) (mc_InvalidMatrix : MsgC K mg (Str.ofString "InvalidMatrix")) {f : Addr} {fd : FuncData} (F : Fun K (Str.ofString "matrix_product") (Str.ofString "matrix_product") st_matrix_product f fd) (hm : mg (Str.ofString "matrix_product") = some (.ref f)) : FnG P w K mg base 8 (Str.ofString "matrix_product") f_matrix_product :=
  fn_star (m := m_matrix_product ) F hm sc_matrix_product rfl (fun _ _ _ _ _ _ us rest hl => match us, rest, hl with | [_], [], _ => rfl | [_], _ :: _, _ => rfl) fun cdv A outer s H E g =>
    (db_cons (ds_do (de_call g (h_need_width.mono (by decide)) (da_cons (de_var 0) da_nil)))
    (db_cons (ds_if (dt_not (dt_tru (de_var 1))) (db_one (ds_raise g mc_InvalidMatrix de_str)) db_nil)
    (db_cons (ds_for g.po g.calm (di_seq (de_var 1)) (dg_var g.nd) (db_one (ds_do (de_call g (h_need_matrix.mono (by decide)) (da_cons (de_var 0) (da_cons (de_var 2) da_nil))))))
    (db_cons (ds_for g.po g.calm (di_zip2 nb.zip (de_var 1) (de_slice (de_var 1) (do_some de_int) do_none)) (dg_pair g.calm (dg_var g.nd) (dg_var g.nd)) (db_one (ds_if (dt_ne g.q (c_len nb.len (de_var 4)) (c_len nb.len (de_ix (de_var 3) de_int))) (db_one (ds_raise g mc_InvalidMatrix de_str)) db_nil)))
    (db_cons (s_set g.q (de_ix (de_var 1) de_int))
    (db_cons (ds_for g.po g.calm (di_seq (de_slice (de_var 1) (do_some de_int) do_none)) (dg_var g.nd) (db_one (s_set g.q (de_call g (h_times_matrix.mono (by decide)) (da_cons (de_var 0) (da_cons (de_var 5) (da_cons (de_var 2) da_nil)))))))
    (db_one (ds_ret (de_var 5)))))))))
/-! ### _law_stream -/
abbrev st__law_stream : Stmt := topS 27
abbrev n__law_stream : List Str := [(Str.ofString "script"), (Str.ofString "at"), (Str.ofString "cell"), (Str.ofString "great"), (Str.ofString "mixed")]
theorem sc__law_stream : FnScope n__law_stream [(Str.ofString "script"), (Str.ofString "at")] (defScope st__law_stream) := ⟨rfl, rfl, rfl, by decide +kernel, rfl, by decide +kernel, by decide +kernel⟩
noncomputable def m__law_stream : Sm :=
    (sSeq (sSet 2 (eBin pPlus (eBin pTimes (eLit (.int 11)) (eVar 1)) (eLit (.int 4))))
    (sSeq (sIf (tVal (eBin pLt (eVar 1) (eCa pLen (esCons (eVar 0) esNil)))) (sSet 2 (eBin pIx (eVar 0) (eVar 1))) sNil)
    (sSeq (sSet 3 (eBin pMod (eCa pAbs (esCons (eVar 2) esNil)) (eBin pPow (eBin pPow (eLit (.int 10)) (eLit (.int 60))) (eLit (.int 12)))))
    (sSeq (sSet 4 (eBin pMod (eBin pPlus (eBin pPlus (eBin pPlus (eBin pTimes (eBin pMod (eVar 3) (eLit (.int 2147483587))) (eLit (.int 69621))) (eBin pTimes (eLit (.int 1009)) (eVar 1))) (eBin pTimes (eLit (.int 3)) (eCa pInt (esCons (eBin pLt (eVar 2) (eLit (.int 0))) esNil)))) (eLit (.int 17))) (eLit (.int 2147483647))))
    (sRetNew (nLst (esCons (eCa pMax (esCons (eLit (.int 0)) (esCons (eBin pSub (eVar 3) (eBin pPow (eLit (.int 10)) (eLit (.int 18)))) esNil))) (esCons (eVar 4) (esCons (eLit (.int 0)) esNil)))))))))
noncomputable def f__law_stream : Fn := fun args S => if args.length = 2 then fnRun 3 (m__law_stream ) args S else none
theorem ok__law_stream (nb : NB mg) {f : Addr} {fd : FuncData} (F : Fun K (Str.ofString "_law_stream") (Str.ofString "_law_stream") st__law_stream f fd) (hm : mg (Str.ofString "_law_stream") = some (.ref f)) : FnG P w K mg base 1 (Str.ofString "_law_stream") f__law_stream :=
  fn_def (m := m__law_stream ) F hm sc__law_stream rfl (fun _ _ _ _ _ _ us hl => match us, hl with | [_, _], _ => rfl) fun cdv A outer s H E g =>
    (db_cons (s_set g.q (de_plus (de_times de_int (de_var 1)) de_int))
    (db_cons (ds_if (dt_lt (de_var 1) (c_len nb.len (de_var 0))) (db_one (s_set g.q (de_ix (de_var 0) (de_var 1)))) db_nil)
    (db_cons (s_set g.q (de_mod (c_abs nb.abs (de_var 2)) (de_pow (de_pow de_int de_int) de_int)))
    (db_cons (s_set g.q (de_mod (de_plus (de_plus (de_plus (de_times (de_mod (de_var 3) de_int) de_int) (de_times de_int (de_var 1))) (de_times de_int (c_int nb.int (de_lt (de_var 2) de_int)))) de_int) de_int))
    (db_one (ds_retNew (dn_lst (da_cons (c_max g nb.max de_int (de_sub (de_var 3) (de_pow de_int de_int))) (da_cons (de_var 4) (da_cons de_int da_nil))))))))))
/-! ### _law_draw -/
abbrev st__law_draw : Stmt := topS 28
abbrev n__law_draw : List Str := [(Str.ofString "stream"), (Str.ofString "total"), (Str.ofString "found"), (Str.ofString "one"), (Str.ofString "two")]
theorem sc__law_draw : FnScope n__law_draw [(Str.ofString "stream"), (Str.ofString "total")] (defScope st__law_draw) := ⟨rfl, rfl, rfl, by decide +kernel, rfl, by decide +kernel, by decide +kernel⟩
noncomputable def m__law_draw : Sm :=
    (sSeq (sIf (tVal (eBin pGt (eBin pIx (eVar 0) (eLit (.int 0))) (eLit (.int 0)))) (sSeq (sSet 2 (eBin pMod (eBin pIx (eVar 0) (eLit (.int 0))) (eVar 1)))
    (sSeq (sSetIx (eBin pDiv (eBin pIx (eVar 0) (eLit (.int 0))) (eVar 1)) (eVar 0) (eLit (.int 0)))
    (sRet (eVar 2)))) sNil)
    (sSeq (sSetIx (eBin pPlus (eBin pIx (eVar 0) (eLit (.int 2))) (eLit (.int 1))) (eVar 0) (eLit (.int 2)))
    (sSeq (sSet 3 (eBin pMod (eBin pPlus (eBin pIx (eVar 0) (eLit (.int 1))) (eBin pTimes (eLit (.int 1000033)) (eBin pIx (eVar 0) (eLit (.int 2))))) (eLit (.int 2305843009213693951))))
    (sSeq (sSet 4 (eBin pMod (eBin pPlus (eBin pTimes (eBin pMod (eBin pTimes (eVar 3) (eVar 3)) (eLit (.int 2305843009213693921))) (eVar 3)) (eBin pTimes (eLit (.int 7919)) (eBin pIx (eVar 0) (eLit (.int 2))))) (eLit (.int 2305843009213693907))))
    (sRet (eBin pMod (eBin pDiv (eVar 4) (eLit (.int 8192))) (eVar 1)))))))
noncomputable def f__law_draw : Fn := fun args S => if args.length = 2 then fnRun 3 (m__law_draw ) args S else none
theorem ok__law_draw (nb : NB mg) {f : Addr} {fd : FuncData} (F : Fun K (Str.ofString "_law_draw") (Str.ofString "_law_draw") st__law_draw f fd) (hm : mg (Str.ofString "_law_draw") = some (.ref f)) : FnG P w K mg base 1 (Str.ofString "_law_draw") f__law_draw :=
  fn_def (m := m__law_draw ) F hm sc__law_draw rfl (fun _ _ _ _ _ _ us hl => match us, hl with | [_, _], _ => rfl) fun cdv A outer s H E g =>
    (db_cons (ds_if (dt_gt (de_ix (de_var 0) de_int) de_int) (db_cons (s_set g.q (de_mod (de_ix (de_var 0) de_int) (de_var 1)))
    (db_cons (ds_setIx (de_div (de_ix (de_var 0) de_int) (de_var 1)) (de_var 0) de_int)
    (db_one (ds_ret (de_var 2))))) db_nil)
    (db_cons (ds_setIx (de_plus (de_ix (de_var 0) de_int) de_int) (de_var 0) de_int)
    (db_cons (s_set g.q (de_mod (de_plus (de_ix (de_var 0) de_int) (de_times de_int (de_ix (de_var 0) de_int))) de_int))
    (db_cons (s_set g.q (de_mod (de_plus (de_times (de_mod (de_times (de_var 3) (de_var 3)) de_int) (de_var 3)) (de_times de_int (de_ix (de_var 0) de_int))) de_int))
    (db_one (ds_ret (de_mod (de_div (de_var 4) de_int) (de_var 1))))))))
/-! ### _law_row -/
abbrev st__law_row : Stmt := topS 29
abbrev n__law_row : List Str := [(Str.ofString "stream"), (Str.ofString "width"), (Str.ofString "size"), (Str.ofString "some"), (Str.ofString "top"), (Str.ofString "at")]
theorem sc__law_row : FnScope n__law_row [(Str.ofString "stream"), (Str.ofString "width"), (Str.ofString "size")] (defScope st__law_row) := ⟨rfl, rfl, rfl, by decide +kernel, rfl, by decide +kernel, by decide +kernel⟩
noncomputable def m__law_row : Sm :=
    (sSeq (sParN 3 4 (nLst esNil) (eBin pShl (eLit (.int 1)) (eVar 1)))
    (sSeq (sFor (wRng1 (eVar 2)) (gVar 5) (sDo (eApp (eVar 3) (eBin pIx (eCa dispL (esCons (eLit (.int 0)) (esCons (eLit (.int 1)) (esCons (eLit (.int 0)) (esCons (eLit (.int 1)) (esCons (eBin pMod (eLit (.int 2)) (eVar 4)) (esCons (eBin pSub (eVar 4) (eLit (.int 1))) (esCons (eBin pDiv (eVar 4) (eLit (.int 2))) (esCons (eCall f__law_draw (esCons (eVar 0) (esCons (eVar 4) esNil))) esNil))))))))) (eCall f__law_draw (esCons (eVar 0) (esCons (eLit (.int 8)) esNil)))))))
    (sRet (eCa pTupOf (esCons (eVar 3) esNil)))))
noncomputable def f__law_row : Fn := fun args S => if args.length = 3 then fnRun 3 (m__law_row ) args S else none
theorem ok__law_row (nb : NB mg) (h__law_draw : FnG P w K mg base 1 (Str.ofString "_law_draw") f__law_draw) {f : Addr} {fd : FuncData} (F : Fun K (Str.ofString "_law_row") (Str.ofString "_law_row") st__law_row f fd) (hm : mg (Str.ofString "_law_row") = some (.ref f)) : FnG P w K mg base 2 (Str.ofString "_law_row") f__law_row :=
  fn_def (m := m__law_row ) F hm sc__law_row rfl (fun _ _ _ _ _ _ us hl => match us, hl with | [_, _, _], _ => rfl) fun cdv A outer s H E g =>
    (db_cons (ds_parN g (dn_lst da_nil) (de_shl de_int (de_var 1)))
    (db_cons (ds_for g.po g.calm (di_rng1 nb.range (de_var 2)) (dg_var g.nd) (db_one (ds_do (de_append (de_var 3) (de_ix (de_lst (da_cons de_int (da_cons de_int (da_cons de_int (da_cons de_int (da_cons (de_mod de_int (de_var 4)) (da_cons (de_sub (de_var 4) de_int) (da_cons (de_div (de_var 4) de_int) (da_cons (de_call g (h__law_draw.mono (by decide)) (da_cons (de_var 0) (da_cons (de_var 4) da_nil))) da_nil))))))))) (de_call g (h__law_draw.mono (by decide)) (da_cons (de_var 0) (da_cons de_int da_nil))))))))
    (db_one (ds_ret (c_tuple nb.tuple (de_var 3))))))
/-! ### _law_dot -/
abbrev st__law_dot : Stmt := topS 30
abbrev n__law_dot : List Str := [(Str.ofString "width"), (Str.ofString "row"), (Str.ofString "state"), (Str.ofString "one"), (Str.ofString "other")]
theorem sc__law_dot : FnScope n__law_dot [(Str.ofString "width"), (Str.ofString "row"), (Str.ofString "state")] (defScope st__law_dot) := ⟨rfl, rfl, rfl, by decide +kernel, rfl, by decide +kernel, by decide +kernel⟩
noncomputable def m__law_dot : Sm :=
    (sRet (eBin pMod (eCa pSum (esCons (eComp (wZip2 (eVar 1) (eVar 2)) (gPair (gVar 3) (gVar 4)) tTrue (eBin pTimes (eVar 3) (eVar 4)) [3, 4]) esNil)) (eBin pShl (eLit (.int 1)) (eVar 0))))
noncomputable def f__law_dot : Fn := fun args S => if args.length = 3 then fnRun 2 (m__law_dot ) args S else none
theorem ok__law_dot (nb : NB mg) {f : Addr} {fd : FuncData} (F : Fun K (Str.ofString "_law_dot") (Str.ofString "_law_dot") st__law_dot f fd) (hm : mg (Str.ofString "_law_dot") = some (.ref f)) : FnG P w K mg base 1 (Str.ofString "_law_dot") f__law_dot :=
  fn_def (m := m__law_dot ) F hm sc__law_dot rfl (fun _ _ _ _ _ _ us hl => match us, hl with | [_, _, _], _ => rfl) fun cdv A outer s H E g =>
    (db_one (ds_ret (de_mod (c_sum g nb.sum (de_comp g.calm g.nd (di_zip2 nb.zip (de_var 1) (de_var 2)) (blkOk_by (own := [((Str.ofString "one"), 3), ((Str.ofString "other"), 4)]) (N := n__law_dot) (sc := defScope st__law_dot) (by decide +kernel)) (by decide) (fun s H C cl fp => (dg_pair (g.blk s H _ _ fp).calm (dg_var (g.blk s H _ _ fp).nd) (dg_var (g.blk s H _ _ fp).nd))) (fun s H C cl fp => dts_nil) (fun s H C cl fp => (de_times (de_var 3) (de_var 4))))) (de_shl de_int (de_var 0)))))
/-! ### _law_row_times -/
abbrev st__law_row_times : Stmt := topS 31
abbrev n__law_row_times : List Str := [(Str.ofString "width"), (Str.ofString "row"), (Str.ofString "matrix"), (Str.ofString "found"), (Str.ofString "word"), (Str.ofString "other"), (Str.ofString "one"), (Str.ofString "two")]
theorem sc__law_row_times : FnScope n__law_row_times [(Str.ofString "width"), (Str.ofString "row"), (Str.ofString "matrix")] (defScope st__law_row_times) := ⟨rfl, rfl, rfl, by decide +kernel, rfl, by decide +kernel, by decide +kernel⟩
noncomputable def m__law_row_times : Sm :=
    (sSeq (sSet 3 (eBin pTimes (eCa dispL (esCons (eLit (.int 0)) esNil)) (eCa pLen (esCons (eBin pIx (eVar 2) (eLit (.int 0))) esNil))))
    (sSeq (sFor (wZip2 (eVar 1) (eVar 2)) (gPair (gVar 4) (gVar 5)) (sSet 3 (eComp (wZip2 (eVar 3) (eVar 5)) (gPair (gVar 6) (gVar 7)) tTrue (eBin pMod (eBin pPlus (eVar 6) (eBin pTimes (eVar 4) (eVar 7))) (eBin pShl (eLit (.int 1)) (eVar 0))) [6, 7])))
    (sRet (eCa pTupOf (esCons (eVar 3) esNil)))))
noncomputable def f__law_row_times : Fn := fun args S => if args.length = 3 then fnRun 5 (m__law_row_times ) args S else none
theorem ok__law_row_times (nb : NB mg) {f : Addr} {fd : FuncData} (F : Fun K (Str.ofString "_law_row_times") (Str.ofString "_law_row_times") st__law_row_times f fd) (hm : mg (Str.ofString "_law_row_times") = some (.ref f)) : FnG P w K mg base 1 (Str.ofString "_law_row_times") f__law_row_times :=
  fn_def (m := m__law_row_times ) F hm sc__law_row_times rfl (fun _ _ _ _ _ _ us hl => match us, hl with | [_, _, _], _ => rfl) fun cdv A outer s H E g =>
    (db_cons (s_set g.q (de_times (de_lst (da_cons de_int da_nil)) (c_len nb.len (de_ix (de_var 2) de_int))))
    (db_cons (ds_for g.po g.calm (di_zip2 nb.zip (de_var 1) (de_var 2)) (dg_pair g.calm (dg_var g.nd) (dg_var g.nd)) (db_one (ds_setLc g.calm g.nd rfl rfl (sw_true rfl rfl rfl (by decide +kernel)) (di_zip2 nb.zip (de_var 3) (de_var 5)) (blkOk_by (own := [((Str.ofString "one"), 6), ((Str.ofString "two"), 7)]) (N := n__law_row_times) (sc := defScope st__law_row_times) (by decide +kernel)) (by decide) (fun s H C cl fp => (dg_pair (g.blk s H _ _ fp).calm (dg_var (g.blk s H _ _ fp).nd) (dg_var (g.blk s H _ _ fp).nd))) (fun s H C cl fp => dts_nil) (fun s H C cl fp => (de_mod (de_plus (de_var 6) (de_times (de_var 4) (de_var 7))) (de_shl de_int (de_var 0)))))))
    (db_one (ds_ret (c_tuple nb.tuple (de_var 3))))))
/-! ### _law_product -/
abbrev st__law_product : Stmt := topS 32
abbrev n__law_product : List Str := [(Str.ofString "width"), (Str.ofString "first"), (Str.ofString "second"), (Str.ofString "row")]
theorem sc__law_product : FnScope n__law_product [(Str.ofString "width"), (Str.ofString "first"), (Str.ofString "second")] (defScope st__law_product) := ⟨rfl, rfl, rfl, by decide +kernel, rfl, by decide +kernel, by decide +kernel⟩
noncomputable def m__law_product : Sm :=
    (sRet (eCa pTupOf (esCons (eComp (wSeq (eVar 1)) (gVar 3) tTrue (eCall f__law_row_times (esCons (eVar 0) (esCons (eVar 3) (esCons (eVar 2) esNil)))) [3]) esNil)))
noncomputable def f__law_product : Fn := fun args S => if args.length = 3 then fnRun 1 (m__law_product ) args S else none
theorem ok__law_product (nb : NB mg) (h__law_row_times : FnG P w K mg base 1 (Str.ofString "_law_row_times") f__law_row_times) {f : Addr} {fd : FuncData} (F : Fun K (Str.ofString "_law_product") (Str.ofString "_law_product") st__law_product f fd) (hm : mg (Str.ofString "_law_product") = some (.ref f)) : FnG P w K mg base 2 (Str.ofString "_law_product") f__law_product :=
  fn_def (m := m__law_product ) F hm sc__law_product rfl (fun _ _ _ _ _ _ us hl => match us, hl with | [_, _, _], _ => rfl) fun cdv A outer s H E g =>
    (db_one (ds_ret (c_tuple nb.tuple (de_comp g.calm g.nd (di_seq (de_var 1)) (blkOk_by (own := [((Str.ofString "row"), 3)]) (N := n__law_product) (sc := defScope st__law_product) (by decide +kernel)) (by decide) (fun s H C cl fp => (dg_var (g.blk s H _ _ fp).nd)) (fun s H C cl fp => dts_nil) (fun s H C cl fp => (de_call (g.blk s H _ _ fp) (h__law_row_times.mono (by decide)) (da_cons (de_var 0) (da_cons (de_var 3) (da_cons (de_var 2) da_nil)))))))))
/-! ### _law_is_int -/
abbrev st__law_is_int : Stmt := topS 33
abbrev n__law_is_int : List Str := [(Str.ofString "value")]
theorem sc__law_is_int : FnScope n__law_is_int [(Str.ofString "value")] (defScope st__law_is_int) := ⟨rfl, rfl, rfl, by decide +kernel, rfl, by decide +kernel, by decide +kernel⟩
noncomputable def m__law_is_int : Sm :=
    (sRet (eAnd (eIsi "int" (eVar 0)) (eNot (eIsi "bool" (eVar 0)))))
noncomputable def f__law_is_int : Fn := fun args S => if args.length = 1 then fnRun 0 (m__law_is_int ) args S else none
theorem ok__law_is_int (nb : NB mg) {f : Addr} {fd : FuncData} (F : Fun K (Str.ofString "_law_is_int") (Str.ofString "_law_is_int") st__law_is_int f fd) (hm : mg (Str.ofString "_law_is_int") = some (.ref f)) : FnG P w K mg base 1 (Str.ofString "_law_is_int") f__law_is_int :=
  fn_def (m := m__law_is_int ) F hm sc__law_is_int rfl (fun _ _ _ _ _ _ us hl => match us, hl with | [_], _ => rfl) fun cdv A outer s H E g =>
    (db_one (ds_ret (de_and (de_isi (n := "int") (by decide) nb.isinstance nb.int bt_int (de_var 0)) (de_one (de_not (de_isi (n := "bool") (by decide) nb.isinstance nb.bool bt_bool (de_var 0)))))))
/-! ### _law_odd -/
abbrev st__law_odd : Stmt := topS 34
abbrev n__law_odd : List Str := [(Str.ofString "stream"), (Str.ofString "some")]
theorem sc__law_odd : FnScope n__law_odd [(Str.ofString "stream")] (defScope st__law_odd) := ⟨rfl, rfl, rfl, by decide +kernel, rfl, by decide +kernel, by decide +kernel⟩
noncomputable def m__law_odd : Sm :=
    (sSeq (sSet 1 (eCa dispL (esCons (eLit .none) (esCons (eLit (.bool true)) (esCons (eLit (.bool false)) (esCons (eNeg (eLit (.int 1))) (esCons (eLit (.int 0)) (esCons (eLit (.int 1)) (esCons (eLit (.int 7)) (esCons (eLit (.int 65536)) (esCons (eBin pPow (eLit (.int 10)) (eLit (.int 39))) (esCons (eLit (.str (Str.ofString ""))) (esCons (eLit (.str (Str.ofString "a"))) (esCons (eLit (.str (Str.ofString "main"))) (esCons (eLit (.str (Str.ofString "set"))) (esCons (eCa dispT esNil) (esCons (eCa dispL esNil) (esCons (eLit (.dict [])) (esCons (eCa dispT (esCons (eLit (.int 0)) esNil)) (esCons (eCa dispL (esCons (eLit (.int 0)) esNil)) (esCons (eCa dispT (esCons (eLit (.str (Str.ofString "x"))) esNil)) esNil)))))))))))))))))))))
    (sRet (eBin pIx (eBin pPlus (eVar 1) (eCa dispL (esCons (eCa dispT (esCons (eCa dispT (esCons (eLit (.int 0)) esNil)) esNil)) (esCons (eCa dispT (esCons (eLit .none) esNil)) (esCons (eCa dispT (esCons (eLit (.bool true)) esNil)) esNil))))) (eCall f__law_draw (esCons (eVar 0) (esCons (eLit (.int 22)) esNil))))))
noncomputable def f__law_odd : Fn := fun args S => if args.length = 1 then fnRun 1 (m__law_odd ) args S else none
theorem ok__law_odd (nb : NB mg) (h__law_draw : FnG P w K mg base 1 (Str.ofString "_law_draw") f__law_draw) {f : Addr} {fd : FuncData} (F : Fun K (Str.ofString "_law_odd") (Str.ofString "_law_odd") st__law_odd f fd) (hm : mg (Str.ofString "_law_odd") = some (.ref f)) : FnG P w K mg base 2 (Str.ofString "_law_odd") f__law_odd :=
  fn_def (m := m__law_odd ) F hm sc__law_odd rfl (fun _ _ _ _ _ _ us hl => match us, hl with | [_], _ => rfl) fun cdv A outer s H E g =>
    (db_cons (s_set g.q (de_lst (da_cons de_non (da_cons de_bl (da_cons de_bl (da_cons (de_neg de_int) (da_cons de_int (da_cons de_int (da_cons de_int (da_cons de_int (da_cons (de_pow de_int de_int) (da_cons de_str (da_cons de_str (da_cons de_str (da_cons de_str (da_cons (de_tup da_nil) (da_cons (de_lst da_nil) (da_cons de_dict0 (da_cons (de_tup (da_cons de_int da_nil)) (da_cons (de_lst (da_cons de_int da_nil)) (da_cons (de_tup (da_cons de_str da_nil)) da_nil)))))))))))))))))))))
    (db_one (ds_ret (de_ix (de_plus (de_var 1) (de_lst (da_cons (de_tup (da_cons (de_tup (da_cons de_int da_nil)) da_nil)) (da_cons (de_tup (da_cons de_non da_nil)) (da_cons (de_tup (da_cons de_bl da_nil)) da_nil))))) (de_call g (h__law_draw.mono (by decide)) (da_cons (de_var 0) (da_cons de_int da_nil)))))))
/-! ### _law_bent -/
abbrev st__law_bent : Stmt := topS 35
abbrev n__law_bent : List Str := [(Str.ofString "stream"), (Str.ofString "value"), (Str.ofString "deep"), (Str.ofString "at"), (Str.ofString "some")]
theorem sc__law_bent : FnScope n__law_bent [(Str.ofString "stream"), (Str.ofString "value"), (Str.ofString "deep")] (defScope st__law_bent) := ⟨rfl, rfl, rfl, by decide +kernel, rfl, by decide +kernel, by decide +kernel⟩
noncomputable def m__law_bent (rec : Fn) : Sm :=
    (sSeq (sIf (tAd (tVal (eIsi "tuple" (eVar 1))) (tAd (tVal (eBin pNe (eVar 1) (eCa dispT esNil))) (tAd (tVal (eBin pGt (eVar 2) (eLit (.int 0)))) (tVal (eBin pGt (eCall f__law_draw (esCons (eVar 0) (esCons (eLit (.int 5)) esNil))) (eLit (.int 0))))))) (sSeq (sSet 3 (eCall f__law_draw (esCons (eVar 0) (esCons (eCa pLen (esCons (eVar 1) esNil)) esNil))))
    (sRet (eBin pPlus (eBin pPlus (eSl (eVar 1) poN (poS (eVar 3))) (eCa dispT (esCons (eCall rec (esCons (eVar 0) (esCons (eBin pIx (eVar 1) (eVar 3)) (esCons (eBin pSub (eVar 2) (eLit (.int 1))) esNil)))) esNil))) (eSl (eVar 1) (poS (eBin pPlus (eVar 3) (eLit (.int 1)))) poN)))) sNil)
    (sSeq (sIf (tVal (eIsi "tuple" (eVar 1))) (sSeq (sSet 3 (eCall f__law_draw (esCons (eVar 0) (esCons (eBin pPlus (eCa pLen (esCons (eVar 1) esNil)) (eLit (.int 1))) esNil))))
    (sSeq (sSet 4 (eCa dispL (esCons (eCa pListOf (esCons (eVar 1) esNil)) (esCons (eBin pPlus (eSl (eVar 1) poN (poS (eVar 3))) (eSl (eVar 1) (poS (eBin pPlus (eVar 3) (eLit (.int 1)))) poN)) (esCons (eBin pPlus (eBin pPlus (eSl (eVar 1) poN (poS (eVar 3))) (eCa dispT (esCons (eLit (.int 0)) esNil))) (eSl (eVar 1) (poS (eVar 3)) poN)) (esCons (eUn pRev (eVar 1)) esNil))))))
    (sRet (eBin pIx (eBin pPlus (eVar 4) (eCa dispL (esCons (eBin pPlus (eVar 1) (eSl (eVar 1) (poS (eNeg (eLit (.int 1)))) poN)) (esCons (eCa dispT (esCons (eVar 1) esNil)) (esCons (eCa dispT esNil) (esCons (eBin pPlus (eBin pPlus (eSl (eVar 1) poN (poS (eVar 3))) (eSl (eVar 1) poN (poS (eLit (.int 1))))) (eSl (eVar 1) (poS (eVar 3)) poN)) esNil)))))) (eCall f__law_draw (esCons (eVar 0) (esCons (eLit (.int 8)) esNil))))))) sNil)
    (sSeq (sIf (tVal (eCall f__law_is_int (esCons (eVar 1) esNil))) (sRet (eBin pIx (eCa dispL (esCons (eBin pPlus (eVar 1) (eLit (.int 1))) (esCons (eBin pSub (eVar 1) (eLit (.int 1))) (esCons (eBin pSub (eLit (.int 0)) (eVar 1)) (esCons (eCa pStr (esCons (eVar 1) esNil)) (esCons (eBin pEq (eVar 1) (eLit (.int 1))) (esCons (eLit (.int 65536)) (esCons (eCa dispT (esCons (eVar 1) esNil)) esNil)))))))) (eCall f__law_draw (esCons (eVar 0) (esCons (eLit (.int 7)) esNil))))) sNil)
    (sSeq (sIf (tVal (eIsi "str" (eVar 1))) (sRet (eBin pIx (eCa dispL (esCons (eBin pPlus (eVar 1) (eLit (.str (Str.ofString "a")))) (esCons (eSl (eVar 1) (poS (eLit (.int 1))) poN) (esCons (eUn pUp (eVar 1)) (esCons (eLit (.str (Str.ofString "main"))) (esCons (eLit (.str (Str.ofString "set"))) (esCons (eLit (.str (Str.ofString "input"))) (esCons (eCa dispT (esCons (eVar 1) esNil)) (esCons (eLit .none) esNil))))))))) (eCall f__law_draw (esCons (eVar 0) (esCons (eLit (.int 8)) esNil))))) sNil)
    (sRet (eCall f__law_odd (esCons (eVar 0) esNil)))))))
noncomputable def f__law_bent : Nat → Fn
  | 0 => fun _ _ => none
  | n + 1 => fun args S => if args.length = 3 then fnRun 2 (m__law_bent (f__law_bent n)) args S else none
theorem ok__law_bent_r {rec : Fn} {j : Nat} (hj : 2 ≤ j) (nb : NB mg) (h__law_draw : FnG P w K mg base 1 (Str.ofString "_law_draw") f__law_draw) (h__law_is_int : FnG P w K mg base 1 (Str.ofString "_law_is_int") f__law_is_int) (h__law_odd : FnG P w K mg base 2 (Str.ofString "_law_odd") f__law_odd) (h_rec : FnG P w K mg base j (Str.ofString "_law_bent") rec) {f : Addr} {fd : FuncData} (F : Fun K (Str.ofString "_law_bent") (Str.ofString "_law_bent") st__law_bent f fd) (hm : mg (Str.ofString "_law_bent") = some (.ref f)) : FnG P w K mg base (j + 1) (Str.ofString "_law_bent") (fun args S => if args.length = 3 then fnRun 2 (m__law_bent rec) args S else none) :=
  fn_def (m := m__law_bent rec) F hm sc__law_bent rfl (fun _ _ _ _ _ _ us hl => match us, hl with | [_, _, _], _ => rfl) fun cdv A outer s H E g =>
    (db_cons (ds_if (dt_w (dw_and (dt_val (de_isi (n := "tuple") (by decide) nb.isinstance nb.tuple bt_tuple (de_var 1))) (dw_and (dt_ne g.q (de_var 1) (de_tup da_nil)) (dw_and (dt_gt (de_var 2) de_int) (dw_and1 (dt_gt (de_call g (h__law_draw.mono (Nat.le_trans (show 1 ≤ 2 by decide) hj)) (da_cons (de_var 0) (da_cons de_int da_nil))) de_int)))))) (db_cons (s_set g.q (de_call g (h__law_draw.mono (Nat.le_trans (show 1 ≤ 2 by decide) hj)) (da_cons (de_var 0) (da_cons (c_len nb.len (de_var 1)) da_nil))))
    (db_one (ds_ret (de_plus (de_plus (de_slice (de_var 1) do_none (do_some (de_var 3))) (de_tup (da_cons (de_call g h_rec (da_cons (de_var 0) (da_cons (de_ix (de_var 1) (de_var 3)) (da_cons (de_sub (de_var 2) de_int) da_nil)))) da_nil))) (de_slice (de_var 1) (do_some (de_plus (de_var 3) de_int)) do_none))))) db_nil)
    (db_cons (ds_if (dt_val (de_isi (n := "tuple") (by decide) nb.isinstance nb.tuple bt_tuple (de_var 1))) (db_cons (s_set g.q (de_call g (h__law_draw.mono (Nat.le_trans (show 1 ≤ 2 by decide) hj)) (da_cons (de_var 0) (da_cons (de_plus (c_len nb.len (de_var 1)) de_int) da_nil))))
    (db_cons (s_set g.q (de_lst (da_cons (c_list nb.list (de_var 1)) (da_cons (de_plus (de_slice (de_var 1) do_none (do_some (de_var 3))) (de_slice (de_var 1) (do_some (de_plus (de_var 3) de_int)) do_none)) (da_cons (de_plus (de_plus (de_slice (de_var 1) do_none (do_some (de_var 3))) (de_tup (da_cons de_int da_nil))) (de_slice (de_var 1) (do_some (de_var 3)) do_none)) (da_cons (de_rev (de_var 1)) da_nil))))))
    (db_one (ds_ret (de_ix (de_plus (de_var 4) (de_lst (da_cons (de_plus (de_var 1) (de_slice (de_var 1) (do_some (de_neg de_int)) do_none)) (da_cons (de_tup (da_cons (de_var 1) da_nil)) (da_cons (de_tup da_nil) (da_cons (de_plus (de_plus (de_slice (de_var 1) do_none (do_some (de_var 3))) (de_slice (de_var 1) do_none (do_some de_int))) (de_slice (de_var 1) (do_some (de_var 3)) do_none)) da_nil)))))) (de_call g (h__law_draw.mono (Nat.le_trans (show 1 ≤ 2 by decide) hj)) (da_cons (de_var 0) (da_cons de_int da_nil)))))))) db_nil)
    (db_cons (ds_if (dt_val (de_call g (h__law_is_int.mono (Nat.le_trans (show 1 ≤ 2 by decide) hj)) (da_cons (de_var 1) da_nil))) (db_one (ds_ret (de_ix (de_lst (da_cons (de_plus (de_var 1) de_int) (da_cons (de_sub (de_var 1) de_int) (da_cons (de_sub de_int (de_var 1)) (da_cons (c_str nb.str (de_var 1)) (da_cons (de_eq g.q (de_var 1) de_int) (da_cons de_int (da_cons (de_tup (da_cons (de_var 1) da_nil)) da_nil)))))))) (de_call g (h__law_draw.mono (Nat.le_trans (show 1 ≤ 2 by decide) hj)) (da_cons (de_var 0) (da_cons de_int da_nil)))))) db_nil)
    (db_cons (ds_if (dt_val (de_isi (n := "str") (by decide) nb.isinstance nb.str bt_str (de_var 1))) (db_one (ds_ret (de_ix (de_lst (da_cons (de_plus (de_var 1) de_str) (da_cons (de_slice (de_var 1) (do_some de_int) do_none) (da_cons (de_upper (de_var 1)) (da_cons de_str (da_cons de_str (da_cons de_str (da_cons (de_tup (da_cons (de_var 1) da_nil)) (da_cons de_non da_nil))))))))) (de_call g (h__law_draw.mono (Nat.le_trans (show 1 ≤ 2 by decide) hj)) (da_cons (de_var 0) (da_cons de_int da_nil)))))) db_nil)
    (db_one (ds_ret (de_call g (h__law_odd.mono (Nat.le_trans (show 2 ≤ 2 by decide) hj)) (da_cons (de_var 0) da_nil))))))))
theorem ok__law_bent (nb : NB mg) (h__law_draw : FnG P w K mg base 1 (Str.ofString "_law_draw") f__law_draw) (h__law_is_int : FnG P w K mg base 1 (Str.ofString "_law_is_int") f__law_is_int) (h__law_odd : FnG P w K mg base 2 (Str.ofString "_law_odd") f__law_odd) {f : Addr} {fd : FuncData} (F : Fun K (Str.ofString "_law_bent") (Str.ofString "_law_bent") st__law_bent f fd) (hm : mg (Str.ofString "_law_bent") = some (.ref f)) : FnG P w K mg base 11 (Str.ofString "_law_bent") (f__law_bent 8) := by
  have h : ∀ n, FnG P w K mg base (3 + n) (Str.ofString "_law_bent") (f__law_bent n) := fun n => by
    induction n with
    | zero => exact fn_none F hm
    | succ n ih => exact ok__law_bent_r (j := 3 + n) (by omega) nb h__law_draw h__law_is_int h__law_odd ih F hm
  exact h 8
/-! ### _law_is_vector -/
abbrev st__law_is_vector : Stmt := topS 36
abbrev n__law_is_vector : List Str := [(Str.ofString "width"), (Str.ofString "size"), (Str.ofString "value"), (Str.ofString "word")]
theorem sc__law_is_vector : FnScope n__law_is_vector [(Str.ofString "width"), (Str.ofString "size"), (Str.ofString "value")] (defScope st__law_is_vector) := ⟨rfl, rfl, rfl, by decide +kernel, rfl, by decide +kernel, by decide +kernel⟩
noncomputable def m__law_is_vector : Sm :=
    (sSeq (sIf (tOr_ (tNt (tVal (eIsi "tuple" (eVar 2)))) (tVal (eBin pNe (eCa pLen (esCons (eVar 2) esNil)) (eVar 1)))) (sRet (eLit (.bool false))) sNil)
    (sRet (eBin pEq (eComp (wSeq (eVar 2)) (gVar 3) (tOr_ (tNt (tVal (eCall f__law_is_int (esCons (eVar 3) esNil)))) (tNt (tVal (eChain pLe pLt (eLit (.int 0)) (eVar 3) (eBin pShl (eLit (.int 1)) (eVar 0)))))) (eVar 3) [3]) (eCa dispL esNil))))
noncomputable def f__law_is_vector : Fn := fun args S => if args.length = 3 then fnRun 1 (m__law_is_vector ) args S else none
theorem ok__law_is_vector (nb : NB mg) (h__law_is_int : FnG P w K mg base 1 (Str.ofString "_law_is_int") f__law_is_int) {f : Addr} {fd : FuncData} (F : Fun K (Str.ofString "_law_is_vector") (Str.ofString "_law_is_vector") st__law_is_vector f fd) (hm : mg (Str.ofString "_law_is_vector") = some (.ref f)) : FnG P w K mg base 2 (Str.ofString "_law_is_vector") f__law_is_vector :=
  fn_def (m := m__law_is_vector ) F hm sc__law_is_vector rfl (fun _ _ _ _ _ _ us hl => match us, hl with | [_, _, _], _ => rfl) fun cdv A outer s H E g =>
    (db_cons (ds_if (dt_w (dw_or (dt_not (dt_val (de_isi (n := "tuple") (by decide) nb.isinstance nb.tuple bt_tuple (de_var 2)))) (dw_or1 (dt_ne g.q (c_len nb.len (de_var 2)) (de_var 1))))) (db_one (ds_ret de_bl)) db_nil)
    (db_one (ds_ret (de_eq g.q (de_comp g.calm g.nd (di_seq (de_var 2)) (blkOk_by (own := [((Str.ofString "word"), 3)]) (N := n__law_is_vector) (sc := defScope st__law_is_vector) (by decide +kernel)) (by decide) (fun s H C cl fp => (dg_var (g.blk s H _ _ fp).nd)) (fun s H C cl fp => (dts_one (dt_w (dw_or (dt_not (dt_val (de_call (g.blk s H _ _ fp) (h__law_is_int.mono (by decide)) (da_cons (de_var 3) da_nil)))) (dw_or1 (dt_not (dt_chLeLt de_int (de_var 3) (de_shl de_int (de_var 0))))))))) (fun s H C cl fp => (de_var 3))) (de_lst da_nil)))))
/-! ### _law_is_matrix -/
abbrev st__law_is_matrix : Stmt := topS 37
abbrev n__law_is_matrix : List Str := [(Str.ofString "width"), (Str.ofString "rows"), (Str.ofString "columns"), (Str.ofString "value"), (Str.ofString "row")]
theorem sc__law_is_matrix : FnScope n__law_is_matrix [(Str.ofString "width"), (Str.ofString "rows"), (Str.ofString "columns"), (Str.ofString "value")] (defScope st__law_is_matrix) := ⟨rfl, rfl, rfl, by decide +kernel, rfl, by decide +kernel, by decide +kernel⟩
noncomputable def m__law_is_matrix : Sm :=
    (sSeq (sIf (tOr_ (tNt (tVal (eIsi "tuple" (eVar 3)))) (tVal (eBin pNe (eCa pLen (esCons (eVar 3) esNil)) (eVar 1)))) (sRet (eLit (.bool false))) sNil)
    (sRet (eBin pEq (eComp (wSeq (eVar 3)) (gVar 4) (tNt (tVal (eCall f__law_is_vector (esCons (eVar 0) (esCons (eVar 2) (esCons (eVar 4) esNil)))))) (eVar 4) [4]) (eCa dispL esNil))))
noncomputable def f__law_is_matrix : Fn := fun args S => if args.length = 4 then fnRun 1 (m__law_is_matrix ) args S else none
theorem ok__law_is_matrix (nb : NB mg) (h__law_is_vector : FnG P w K mg base 2 (Str.ofString "_law_is_vector") f__law_is_vector) {f : Addr} {fd : FuncData} (F : Fun K (Str.ofString "_law_is_matrix") (Str.ofString "_law_is_matrix") st__law_is_matrix f fd) (hm : mg (Str.ofString "_law_is_matrix") = some (.ref f)) : FnG P w K mg base 3 (Str.ofString "_law_is_matrix") f__law_is_matrix :=
  fn_def (m := m__law_is_matrix ) F hm sc__law_is_matrix rfl (fun _ _ _ _ _ _ us hl => match us, hl with | [_, _, _, _], _ => rfl) fun cdv A outer s H E g =>
    (db_cons (ds_if (dt_w (dw_or (dt_not (dt_val (de_isi (n := "tuple") (by decide) nb.isinstance nb.tuple bt_tuple (de_var 3)))) (dw_or1 (dt_ne g.q (c_len nb.len (de_var 3)) (de_var 1))))) (db_one (ds_ret de_bl)) db_nil)
    (db_one (ds_ret (de_eq g.q (de_comp g.calm g.nd (di_seq (de_var 3)) (blkOk_by (own := [((Str.ofString "row"), 4)]) (N := n__law_is_matrix) (sc := defScope st__law_is_matrix) (by decide +kernel)) (by decide) (fun s H C cl fp => (dg_var (g.blk s H _ _ fp).nd)) (fun s H C cl fp => (dts_one (dt_not (dt_val (de_call (g.blk s H _ _ fp) (h__law_is_vector.mono (by decide)) (da_cons (de_var 0) (da_cons (de_var 2) (da_cons (de_var 4) da_nil)))))))) (fun s H C cl fp => (de_var 4))) (de_lst da_nil)))))
/-! ### _law_any_width -/
abbrev st__law_any_width : Stmt := topS 38
abbrev n__law_any_width : List Str := [(Str.ofString "stream")]
theorem sc__law_any_width : FnScope n__law_any_width [(Str.ofString "stream")] (defScope st__law_any_width) := ⟨rfl, rfl, rfl, by decide +kernel, rfl, by decide +kernel, by decide +kernel⟩
noncomputable def m__law_any_width : Sm :=
    (sRet (eBin pIx (eCa dispL (esCons (eLit (.int 1)) (esCons (eLit (.int 2)) (esCons (eLit (.int 3)) (esCons (eLit (.int 4)) (esCons (eLit (.int 8)) (esCons (eLit (.int 16)) (esCons (eLit (.int 15)) (esCons (eBin pPlus (eLit (.int 1)) (eCall f__law_draw (esCons (eVar 0) (esCons (eLit (.int 16)) esNil)))) esNil))))))))) (eCall f__law_draw (esCons (eVar 0) (esCons (eLit (.int 8)) esNil)))))
noncomputable def f__law_any_width : Fn := fun args S => if args.length = 1 then fnRun 0 (m__law_any_width ) args S else none
theorem ok__law_any_width (nb : NB mg) (h__law_draw : FnG P w K mg base 1 (Str.ofString "_law_draw") f__law_draw) {f : Addr} {fd : FuncData} (F : Fun K (Str.ofString "_law_any_width") (Str.ofString "_law_any_width") st__law_any_width f fd) (hm : mg (Str.ofString "_law_any_width") = some (.ref f)) : FnG P w K mg base 2 (Str.ofString "_law_any_width") f__law_any_width :=
  fn_def (m := m__law_any_width ) F hm sc__law_any_width rfl (fun _ _ _ _ _ _ us hl => match us, hl with | [_], _ => rfl) fun cdv A outer s H E g =>
    (db_one (ds_ret (de_ix (de_lst (da_cons de_int (da_cons de_int (da_cons de_int (da_cons de_int (da_cons de_int (da_cons de_int (da_cons de_int (da_cons (de_plus de_int (de_call g (h__law_draw.mono (by decide)) (da_cons (de_var 0) (da_cons de_int da_nil)))) da_nil))))))))) (de_call g (h__law_draw.mono (by decide)) (da_cons (de_var 0) (da_cons de_int da_nil))))))
/-! ### _law_error -/
abbrev st__law_error : Stmt := topS 39
abbrev n__law_error : List Str := [(Str.ofString "call"), (Str.ofString "e"), (Str.ofString "some")]
theorem sc__law_error : FnScope n__law_error [(Str.ofString "call")] (defScope st__law_error) := ⟨rfl, rfl, rfl, by decide +kernel, rfl, by decide +kernel, by decide +kernel⟩
noncomputable def m__law_error : MTh := fun p c q tl =>
    (sSeq (sTry 3 (sTh p c q tl 0) [⟨1, fun z => List.lookup z so_l_WordsError, fun a cls d => (sSeq (sSet 2 (eCa dispL (esCons (eIsX a cls d (fun z => List.lookup z so_l_InvalidWidth) (eVar 1)) (esCons (eIsX a cls d (fun z => List.lookup z so_l_InvalidMatrix) (eVar 1)) (esCons (eIsX a cls d (fun z => List.lookup z so_l_InvalidVector) (eVar 1)) esNil)))))
    (sRet (eIf (tVal (eBin pNe (eM2 pCnt (eVar 2) (eLit (.bool true))) (eLit (.int 1)))) (eLit (.str (Str.ofString "odd"))) (eBin pIx (eCa dispL (esCons (eLit (.str (Str.ofString "width"))) (esCons (eLit (.str (Str.ofString "matrix"))) (esCons (eLit (.str (Str.ofString "vector"))) esNil)))) (eM2 pIdx (eVar 2) (eLit (.bool true)))))))⟩, ⟨1, fun z => List.lookup z so_l_InvalidNumber, fun a cls d => (sRet (eIf (tVal (eIsX a cls d (fun z => List.lookup z so_l_IndexError) (eVar 1))) (eBin pPlus (eLit (.str (Str.ofString "number "))) (eCa pRepr (esCons (eFld a cls d (Str.ofString "value") (fun z => z == (Str.ofString "InvalidNumber")) (eVar 1)) esNil))) (eLit (.str (Str.ofString "odd")))))⟩])
    (sRet (eLit (.str (Str.ofString "returned")))))
noncomputable def g__law_error : Th → Sto → Option FR := runT 2 m__law_error
theorem ok__law_error (nb : NB mg) (kl_InvalidNumber : Kl K mg (Str.ofString "InvalidNumber")) (kl_WordsError : Kl K mg (Str.ofString "WordsError")) (kl_InvalidVector : Kl K mg (Str.ofString "InvalidVector")) (kl_InvalidMatrix : Kl K mg (Str.ofString "InvalidMatrix")) (kl_InvalidWidth : Kl K mg (Str.ofString "InvalidWidth")) (so_InvalidNumber : SubsOk K (.ref kl_InvalidNumber.C) so_l_InvalidNumber) (so_IndexError : SubsOk K (.type "IndexError") so_l_IndexError) (so_WordsError : SubsOk K (.ref kl_WordsError.C) so_l_WordsError) (so_InvalidVector : SubsOk K (.ref kl_InvalidVector.C) so_l_InvalidVector) (so_InvalidMatrix : SubsOk K (.ref kl_InvalidMatrix.C) so_l_InvalidMatrix) (so_InvalidWidth : SubsOk K (.ref kl_InvalidWidth.C) so_l_InvalidWidth) (no_InvalidNumber : PySem.W.findIn K (.ref kl_InvalidNumber.C) (Str.ofString "value") = some none) (nb_IndexError : mg (Str.ofString "IndexError") = none) {f : Addr} {fd : FuncData} (F : Fun K (Str.ofString "_law_error") (Str.ofString "_law_error") st__law_error f fd) (hm : mg (Str.ofString "_law_error") = some (.ref f)) : ∀ k, Nonempty (FnH P w K mg base k (Str.ofString "_law_error") g__law_error) := fun k =>
  fnH_def F hm sc__law_error rfl rfl (by first | exact Or.inl rfl | exact Or.inr (Or.inl rfl) | exact Or.inr (Or.inr rfl)) (fun _ _ _ _ _ _ s us _ hl => .of_eq (match us, hl with | [_], _ => rfl)) fun cdv A stack s H p c q tl g act =>
    (db_cons (ds_try g rfl rfl (fun W2 pn xe g2 => (db_one (ds_thunk act g2.tk))) (clsD_cons kl_WordsError so_WordsError rfl (by decide) rfl rfl (fun a oe cls d pn hz hf => (db_cons (s_set (g.suite a ((a, oe) :: pn)).q (de_lst (da_cons (de_isK hz hf nb.isinstance (de_var 1) kl_InvalidWidth so_InvalidWidth) (da_cons (de_isK hz hf nb.isinstance (de_var 1) kl_InvalidMatrix so_InvalidMatrix) (da_cons (de_isK hz hf nb.isinstance (de_var 1) kl_InvalidVector so_InvalidVector) da_nil)))))
    (db_one (ds_ret (de_if (dt_ne (g.suite a ((a, oe) :: pn)).q (de_lcount (de_var 2) de_bl) de_int) de_str (de_ix (de_lst (da_cons de_str (da_cons de_str (da_cons de_str da_nil)))) (de_lindex (de_var 2) de_bl))))))) (clsD_cons kl_InvalidNumber so_InvalidNumber rfl (by decide) rfl rfl (fun a oe cls d pn hz hf => (db_one (ds_ret (de_if (dt_val (de_isB (T := "IndexError") hz hf nb.isinstance (de_var 1) nb_IndexError bt_IndexError so_IndexError)) (de_plus de_str (c_repr (g.suite a ((a, oe) :: pn)).q nb.repr (de_fldK hz hf kl_InvalidNumber no_InvalidNumber (de_var 1)))) de_str)))) .nil)))
    (db_one (ds_ret de_str)))
/-! ### _law_drawn_matrix -/
abbrev st__law_drawn_matrix : Stmt := topS 40
abbrev n__law_drawn_matrix : List Str := [(Str.ofString "stream"), (Str.ofString "width"), (Str.ofString "rows"), (Str.ofString "columns"), (Str.ofString "row")]
theorem sc__law_drawn_matrix : FnScope n__law_drawn_matrix [(Str.ofString "stream"), (Str.ofString "width"), (Str.ofString "rows"), (Str.ofString "columns")] (defScope st__law_drawn_matrix) := ⟨rfl, rfl, rfl, by decide +kernel, rfl, by decide +kernel, by decide +kernel⟩
noncomputable def m__law_drawn_matrix : Sm :=
    (sRet (eCa pTupOf (esCons (eComp (wRng1 (eVar 2)) (gVar 4) tTrue (eCall f__law_row (esCons (eVar 0) (esCons (eVar 1) (esCons (eVar 3) esNil)))) [4]) esNil)))
noncomputable def f__law_drawn_matrix : Fn := fun args S => if args.length = 4 then fnRun 1 (m__law_drawn_matrix ) args S else none
theorem ok__law_drawn_matrix (nb : NB mg) (h__law_row : FnG P w K mg base 2 (Str.ofString "_law_row") f__law_row) {f : Addr} {fd : FuncData} (F : Fun K (Str.ofString "_law_drawn_matrix") (Str.ofString "_law_drawn_matrix") st__law_drawn_matrix f fd) (hm : mg (Str.ofString "_law_drawn_matrix") = some (.ref f)) : FnG P w K mg base 3 (Str.ofString "_law_drawn_matrix") f__law_drawn_matrix :=
  fn_def (m := m__law_drawn_matrix ) F hm sc__law_drawn_matrix rfl (fun _ _ _ _ _ _ us hl => match us, hl with | [_, _, _, _], _ => rfl) fun cdv A outer s H E g =>
    (db_one (ds_ret (c_tuple nb.tuple (de_comp g.calm g.nd (di_rng1 nb.range (de_var 2)) (blkOk_by (own := [((Str.ofString "row"), 4)]) (N := n__law_drawn_matrix) (sc := defScope st__law_drawn_matrix) (by decide +kernel)) (by decide) (fun s H C cl fp => (dg_var (g.blk s H _ _ fp).nd)) (fun s H C cl fp => dts_nil) (fun s H C cl fp => (de_call (g.blk s H _ _ fp) (h__law_row.mono (by decide)) (da_cons (de_var 0) (da_cons (de_var 1) (da_cons (de_var 3) da_nil)))))))))
/-! ### _law_some_matrix -/
abbrev st__law_some_matrix : Stmt := topS 41
abbrev n__law_some_matrix : List Str := [(Str.ofString "width"), (Str.ofString "value")]
theorem sc__law_some_matrix : FnScope n__law_some_matrix [(Str.ofString "width"), (Str.ofString "value")] (defScope st__law_some_matrix) := ⟨rfl, rfl, rfl, by decide +kernel, rfl, by decide +kernel, by decide +kernel⟩
noncomputable def m__law_some_matrix : Sm :=
    (sSeq (sIf (tOr_ (tNt (tVal (eIsi "tuple" (eVar 1)))) (tOr_ (tNt (tVal (eChain pLe pLe (eLit (.int 1)) (eCa pLen (esCons (eVar 1) esNil)) (eLit (.int 5))))) (tNt (tVal (eIsi "tuple" (eBin pIx (eVar 1) (eLit (.int 0)))))))) (sRet (eLit (.bool false))) sNil)
    (sRet (eAnd (eChain pLe pLe (eLit (.int 1)) (eCa pLen (esCons (eBin pIx (eVar 1) (eLit (.int 0))) esNil)) (eLit (.int 5))) (eCall f__law_is_matrix (esCons (eVar 0) (esCons (eCa pLen (esCons (eVar 1) esNil)) (esCons (eCa pLen (esCons (eBin pIx (eVar 1) (eLit (.int 0))) esNil)) (esCons (eVar 1) esNil))))))))
noncomputable def f__law_some_matrix : Fn := fun args S => if args.length = 2 then fnRun 0 (m__law_some_matrix ) args S else none
theorem ok__law_some_matrix (nb : NB mg) (h__law_is_matrix : FnG P w K mg base 3 (Str.ofString "_law_is_matrix") f__law_is_matrix) {f : Addr} {fd : FuncData} (F : Fun K (Str.ofString "_law_some_matrix") (Str.ofString "_law_some_matrix") st__law_some_matrix f fd) (hm : mg (Str.ofString "_law_some_matrix") = some (.ref f)) : FnG P w K mg base 4 (Str.ofString "_law_some_matrix") f__law_some_matrix :=
  fn_def (m := m__law_some_matrix ) F hm sc__law_some_matrix rfl (fun _ _ _ _ _ _ us hl => match us, hl with | [_, _], _ => rfl) fun cdv A outer s H E g =>
    (db_cons (ds_if (dt_w (dw_or (dt_not (dt_val (de_isi (n := "tuple") (by decide) nb.isinstance nb.tuple bt_tuple (de_var 1)))) (dw_or (dt_not (dt_chLeLe de_int (c_len nb.len (de_var 1)) de_int)) (dw_or1 (dt_not (dt_val (de_isi (n := "tuple") (by decide) nb.isinstance nb.tuple bt_tuple (de_ix (de_var 1) de_int)))))))) (db_one (ds_ret de_bl)) db_nil)
    (db_one (ds_ret (de_and (de_chLeLe de_int (c_len nb.len (de_ix (de_var 1) de_int)) de_int) (de_one (de_call g (h__law_is_matrix.mono (by decide)) (da_cons (de_var 0) (da_cons (c_len nb.len (de_var 1)) (da_cons (c_len nb.len (de_ix (de_var 1) de_int)) (da_cons (de_var 1) da_nil))))))))))
/-! ### _law_errors_right -/
abbrev st__law_errors_right : Stmt := topS 42
abbrev n__law_errors_right : List Str := [(Str.ofString "stream"), (Str.ofString "width"), (Str.ofString "matrix"), (Str.ofString "vector"), (Str.ofString "odd"), (Str.ofString "bent"), (Str.ofString "due"), (Str.ofString "found"), (Str.ofString "value"), (Str.ofString "right"), (Str.ofString "unit"), (Str.ofString "column"), (Str.ofString "row"), (Str.ofString "late"), (Str.ofString "wide")]
theorem sc__law_errors_right : FnScope n__law_errors_right [(Str.ofString "stream"), (Str.ofString "width"), (Str.ofString "matrix"), (Str.ofString "vector")] (defScope st__law_errors_right) := ⟨rfl, rfl, rfl, by decide +kernel, rfl, by decide +kernel, by decide +kernel⟩
noncomputable def m__law_errors_right (tp : Nat → Addr) : Sm :=
    (sSeq (sSet 4 (eBin pIx (eCa dispL (esCons (eLit (.int 0)) (esCons (eLit (.int 17)) (esCons (eLit .none) (esCons (eLit (.bool true)) (esCons (eLit (.str (Str.ofString "4"))) esNil)))))) (eCall f__law_draw (esCons (eVar 0) (esCons (eLit (.int 5)) esNil)))))
    (sSeq (sSet 5 (eCall (f__law_bent 8) (esCons (eVar 0) (esCons (eVar 2) (esCons (eLit (.int 2)) esNil)))))
    (sSeq (sSet 6 (eBin pIx (eCa dispL (esCons (eLit (.str (Str.ofString "matrix"))) (esCons (eLit (.str (Str.ofString "returned"))) esNil))) (eCa pInt (esCons (eCall f__law_some_matrix (esCons (eVar 1) (esCons (eVar 5) esNil))) esNil))))
    (sSeq (sNew 7 (nLst (esCons (eHand 0 (lamQ (Str.ofString "_law_errors_right")) (tp 0) g__law_error (eCall f_matrix_times (esCons (eVar 4) (esCons (eLit .none) (esCons (eLit .none) esNil))))) esNil)))
    (sSeq (sDo (eApp (eVar 7) (eHand 0 (lamQ (Str.ofString "_law_errors_right")) (tp 0) g__law_error (eCall f_matrix_product (esCons (eVar 4) esNil)))))
    (sSeq (sIf (tVal (eBin pNe (eBin pPlus (eVar 7) (eCa dispL (esCons (eHand 0 (lamQ (Str.ofString "_law_errors_right")) (tp 0) g__law_error (eCall f_matrix_product (esCons (eVar 1) esNil))) esNil))) (eCa dispL (esCons (eLit (.str (Str.ofString "width"))) (esCons (eLit (.str (Str.ofString "width"))) (esCons (eLit (.str (Str.ofString "matrix"))) esNil)))))) (sRet (eLit (.bool false))) sNil)
    (sSeq (sNew 7 (nLst (esCons (eHand 0 (lamQ (Str.ofString "_law_errors_right")) (tp 0) g__law_error (eCall f_matrix_product (esCons (eVar 1) (esCons (eVar 5) esNil)))) esNil)))
    (sSeq (sDo (eApp (eVar 7) (eHand 0 (lamQ (Str.ofString "_law_errors_right")) (tp 0) g__law_error (eCall f_matrix_product (esCons (eVar 1) (esCons (eLit .none) (esCons (eVar 2) esNil)))))))
    (sSeq (sIf (tVal (eBin pNe (eVar 7) (eCa dispL (esCons (eVar 6) (esCons (eLit (.str (Str.ofString "matrix"))) esNil))))) (sRet (eLit (.bool false))) sNil)
    (sSeq (sFor (wSeq (eCa dispL (esCons (eVar 3) (esCons (eBin pPlus (eVar 3) (eCa dispT (esCons (eLit (.int 0)) esNil))) (esCons (eSl (eVar 3) (poS (eLit (.int 1))) poN) (esCons (eCa pListOf (esCons (eVar 3) esNil)) (esCons (eLit .none) (esCons (eCall (f__law_bent 8) (esCons (eVar 0) (esCons (eVar 3) (esCons (eLit (.int 1)) esNil)))) esNil)))))))) (gVar 8) (sSeq (sSet 9 (eCall f__law_is_vector (esCons (eVar 1) (esCons (eCa pLen (esCons (eBin pIx (eVar 2) (eLit (.int 0))) esNil)) (esCons (eVar 8) esNil)))))
    (sSeq (sIf (tVal (eBin pNe (eHand 0 (lamQ (Str.ofString "_law_errors_right")) (tp 0) g__law_error (eCall f_matrix_times (esCons (eVar 1) (esCons (eVar 2) (esCons (eVar 8) esNil))))) (eBin pIx (eCa dispL (esCons (eLit (.str (Str.ofString "vector"))) (esCons (eLit (.str (Str.ofString "returned"))) esNil))) (eCa pInt (esCons (eVar 9) esNil))))) (sRet (eLit (.bool false))) sNil)
    (sIf (tAd (tVal (eBin pEq (eVar 6) (eLit (.str (Str.ofString "matrix"))))) (tVal (eBin pNe (eHand 0 (lamQ (Str.ofString "_law_errors_right")) (tp 0) g__law_error (eCall f_matrix_times (esCons (eVar 1) (esCons (eVar 5) (esCons (eVar 8) esNil))))) (eLit (.str (Str.ofString "matrix")))))) (sRet (eLit (.bool false))) sNil))))
    (sSeq (sSet 10 (eCa pTupOf (esCons (eComp (wRng1 (eCa pLen (esCons (eVar 2) esNil))) (gVar 12) tTrue (eCa pTupOf (esCons (eComp (wRng1 (eCa pLen (esCons (eVar 2) esNil))) (gVar 11) tTrue (eCa pInt (esCons (eBin pEq (eVar 12) (eVar 11)) esNil)) [11]) esNil)) [12]) esNil)))
    (sSeq (sSet 13 (eIf (tAd (tVal (eBin pEq (eVar 6) (eLit (.str (Str.ofString "returned"))))) (tVal (eBin pEq (eCa pLen (esCons (eVar 5) esNil)) (eCa pLen (esCons (eVar 2) esNil))))) (eLit (.str (Str.ofString "returned"))) (eLit (.str (Str.ofString "matrix")))))
    (sSeq (sSet 14 (eCall f__law_drawn_matrix (esCons (eVar 0) (esCons (eVar 1) (esCons (eBin pPlus (eLit (.int 1)) (eBin pMod (eCa pLen (esCons (eVar 3) esNil)) (eLit (.int 5)))) (esCons (eLit (.int 2)) esNil))))))
    (sSeq (sNew 7 (nLst (esCons (eHand 0 (lamQ (Str.ofString "_law_errors_right")) (tp 0) g__law_error (eCall f_matrix_product (esCons (eVar 1) (esCons (eVar 10) (esCons (eVar 5) esNil))))) esNil)))
    (sSeq (sDo (eApp (eVar 7) (eHand 0 (lamQ (Str.ofString "_law_errors_right")) (tp 0) g__law_error (eCall f_matrix_product (esCons (eVar 1) (esCons (eVar 10) (esCons (eVar 10) (esCons (eVar 5) esNil))))))))
    (sSeq (sDo (eApp (eVar 7) (eHand 0 (lamQ (Str.ofString "_law_errors_right")) (tp 0) g__law_error (eCall f_matrix_product (esCons (eVar 1) (esCons (eVar 2) (esCons (eVar 14) esNil)))))))
    (sSeq (sDo (eApp (eVar 7) (eHand 0 (lamQ (Str.ofString "_law_errors_right")) (tp 0) g__law_error (eCall f_matrix_product (esCons (eVar 1) (esCons (eVar 10) (esCons (eVar 2) (esCons (eVar 14) esNil))))))))
    (sSeq (sDo (eApp (eVar 7) (eHand 0 (lamQ (Str.ofString "_law_errors_right")) (tp 0) g__law_error (eCall f_matrix_product (esCons (eVar 1) (esCons (eVar 10) (esCons (eVar 2) (esCons (eLit .none) esNil))))))))
    (sRet (eBin pEq (eVar 7) (eCa dispL (esCons (eVar 13) (esCons (eVar 13) (esCons (eLit (.str (Str.ofString "matrix"))) (esCons (eLit (.str (Str.ofString "matrix"))) (esCons (eLit (.str (Str.ofString "matrix"))) esNil))))))))))))))))))))))))))
noncomputable def f__law_errors_right (tp : Nat → Addr) : Fn := fun args S => if args.length = 4 then fnRun 11 (m__law_errors_right tp ) args S else none
theorem ok__law_errors_right {tp : Nat → Addr} (nb : NB mg) (h_matrix_times : FnG P w K mg base 8 (Str.ofString "matrix_times") f_matrix_times) (h_matrix_product : FnG P w K mg base 8 (Str.ofString "matrix_product") f_matrix_product) (h__law_draw : FnG P w K mg base 1 (Str.ofString "_law_draw") f__law_draw) (h__law_bent : FnG P w K mg base 11 (Str.ofString "_law_bent") (f__law_bent 8)) (h__law_is_vector : FnG P w K mg base 2 (Str.ofString "_law_is_vector") f__law_is_vector) (h__law_error : ∀ k, Nonempty (FnH P w K mg base k (Str.ofString "_law_error") g__law_error)) (h__law_drawn_matrix : FnG P w K mg base 3 (Str.ofString "_law_drawn_matrix") f__law_drawn_matrix) (h__law_some_matrix : FnG P w K mg base 4 (Str.ofString "_law_some_matrix") f__law_some_matrix) {f : Addr} {fd : FuncData} (F : Fun K (Str.ofString "_law_errors_right") (Str.ofString "_law_errors_right") st__law_errors_right f fd) (hm : mg (Str.ofString "_law_errors_right") = some (.ref f)) {c : Addr} (hc : fd.code = .ref c) (tb : LamX.TabB base mg c (tp 0)) : FnG P w K mg base 12 (Str.ofString "_law_errors_right") (f__law_errors_right tp) :=
  fn_defC (m := m__law_errors_right tp ) F hm hc sc__law_errors_right rfl (fun _ _ _ _ _ _ us hl => match us, hl with | [_, _, _, _], _ => rfl) fun A outer s H E g =>
    (db_cons (s_set g.q (de_ix (de_lst (da_cons de_int (da_cons de_int (da_cons de_non (da_cons de_bl (da_cons de_str da_nil)))))) (de_call g (h__law_draw.mono (by decide)) (da_cons (de_var 0) (da_cons de_int da_nil)))))
    (db_cons (s_set g.q (de_call g (h__law_bent.mono (by decide)) (da_cons (de_var 0) (da_cons (de_var 2) (da_cons de_int da_nil)))))
    (db_cons (s_set g.q (de_ix (de_lst (da_cons de_str (da_cons de_str da_nil))) (c_int nb.int (de_call g (h__law_some_matrix.mono (by decide)) (da_cons (de_var 1) (da_cons (de_var 5) da_nil))))))
    (db_cons (s_new g.q (dn_lst (da_cons (de_handed (i := 0) g (Classical.choice (h__law_error _)) tb rfl (LamX.lamS_by (sc := defScope st__law_errors_right) (by decide +kernel)) rfl (fun _ _ _ _ _ => rfl) (fun A outer s H E f c2 hr hgd => (de_call (gd_lam g.nd hr hgd) (h_matrix_times.mono (by decide)) (da_cons (de_var 4) (da_cons de_non (da_cons de_non da_nil)))))) da_nil)))
    (db_cons (ds_do (de_append (de_var 7) (de_handed (i := 0) g (Classical.choice (h__law_error _)) tb rfl (LamX.lamS_by (sc := defScope st__law_errors_right) (by decide +kernel)) rfl (fun _ _ _ _ _ => rfl) (fun A outer s H E f c2 hr hgd => (de_call (gd_lam g.nd hr hgd) (h_matrix_product.mono (by decide)) (da_cons (de_var 4) da_nil))))))
    (db_cons (ds_if (dt_ne g.q (de_plus (de_var 7) (de_lst (da_cons (de_handed (i := 0) g (Classical.choice (h__law_error _)) tb rfl (LamX.lamS_by (sc := defScope st__law_errors_right) (by decide +kernel)) rfl (fun _ _ _ _ _ => rfl) (fun A outer s H E f c2 hr hgd => (de_call (gd_lam g.nd hr hgd) (h_matrix_product.mono (by decide)) (da_cons (de_var 1) da_nil)))) da_nil))) (de_lst (da_cons de_str (da_cons de_str (da_cons de_str da_nil))))) (db_one (ds_ret de_bl)) db_nil)
    (db_cons (s_new g.q (dn_lst (da_cons (de_handed (i := 0) g (Classical.choice (h__law_error _)) tb rfl (LamX.lamS_by (sc := defScope st__law_errors_right) (by decide +kernel)) rfl (fun _ _ _ _ _ => rfl) (fun A outer s H E f c2 hr hgd => (de_call (gd_lam g.nd hr hgd) (h_matrix_product.mono (by decide)) (da_cons (de_var 1) (da_cons (de_var 5) da_nil))))) da_nil)))
    (db_cons (ds_do (de_append (de_var 7) (de_handed (i := 0) g (Classical.choice (h__law_error _)) tb rfl (LamX.lamS_by (sc := defScope st__law_errors_right) (by decide +kernel)) rfl (fun _ _ _ _ _ => rfl) (fun A outer s H E f c2 hr hgd => (de_call (gd_lam g.nd hr hgd) (h_matrix_product.mono (by decide)) (da_cons (de_var 1) (da_cons de_non (da_cons (de_var 2) da_nil))))))))
    (db_cons (ds_if (dt_ne g.q (de_var 7) (de_lst (da_cons (de_var 6) (da_cons de_str da_nil)))) (db_one (ds_ret de_bl)) db_nil)
    (db_cons (ds_for g.po g.calm (di_seq (de_lst (da_cons (de_var 3) (da_cons (de_plus (de_var 3) (de_tup (da_cons de_int da_nil))) (da_cons (de_slice (de_var 3) (do_some de_int) do_none) (da_cons (c_list nb.list (de_var 3)) (da_cons de_non (da_cons (de_call g (h__law_bent.mono (by decide)) (da_cons (de_var 0) (da_cons (de_var 3) (da_cons de_int da_nil)))) da_nil)))))))) (dg_var g.nd) (db_cons (s_set g.q (de_call g (h__law_is_vector.mono (by decide)) (da_cons (de_var 1) (da_cons (c_len nb.len (de_ix (de_var 2) de_int)) (da_cons (de_var 8) da_nil)))))
    (db_cons (ds_if (dt_ne g.q (de_handed (i := 0) g (Classical.choice (h__law_error _)) tb rfl (LamX.lamS_by (sc := defScope st__law_errors_right) (by decide +kernel)) rfl (fun _ _ _ _ _ => rfl) (fun A outer s H E f c2 hr hgd => (de_call (gd_lam g.nd hr hgd) (h_matrix_times.mono (by decide)) (da_cons (de_var 1) (da_cons (de_var 2) (da_cons (de_var 8) da_nil)))))) (de_ix (de_lst (da_cons de_str (da_cons de_str da_nil))) (c_int nb.int (de_var 9)))) (db_one (ds_ret de_bl)) db_nil)
    (db_one (ds_if (dt_w (dw_and (dt_eq g.q (de_var 6) de_str) (dw_and1 (dt_ne g.q (de_handed (i := 0) g (Classical.choice (h__law_error _)) tb rfl (LamX.lamS_by (sc := defScope st__law_errors_right) (by decide +kernel)) rfl (fun _ _ _ _ _ => rfl) (fun A outer s H E f c2 hr hgd => (de_call (gd_lam g.nd hr hgd) (h_matrix_times.mono (by decide)) (da_cons (de_var 1) (da_cons (de_var 5) (da_cons (de_var 8) da_nil)))))) de_str)))) (db_one (ds_ret de_bl)) db_nil)))))
    (db_cons (s_set g.q (c_tuple nb.tuple (de_comp g.calm g.nd (di_rng1 nb.range (c_len nb.len (de_var 2))) (blkOk_by (own := [((Str.ofString "row"), 12)]) (N := n__law_errors_right) (sc := defScope st__law_errors_right) (by decide +kernel)) (by decide) (fun s H C cl fp => (dg_var (g.blk s H _ _ fp).nd)) (fun s H C cl fp => dts_nil) (fun s H C cl fp => (c_tuple nb.tuple (de_comp (own := [((Str.ofString "column"), 11)]) (by exact g.calm) (by exact g.nd) (di_rng1 nb.range (c_len nb.len (de_var 2))) (by exact (blkOk_by (own := [((Str.ofString "column"), 11)]) (N := n__law_errors_right) (sc := (relS _ (defScope st__law_errors_right))) (by decide +kernel))) (by decide) (fun s2 H2 C2 cl2 fp2 => (dg_var (by exact g.nd))) (fun s2 H2 C2 cl2 fp2 => dts_nil) (fun s2 H2 C2 cl2 fp2 => (c_int nb.int (de_eq (by exact ⟨g.q.1, g.q.2, g.q.3⟩) (de_var 12) (de_var 11))))))))))
    (db_cons (s_set g.q (de_if (dt_w (dw_and (dt_eq g.q (de_var 6) de_str) (dw_and1 (dt_eq g.q (c_len nb.len (de_var 5)) (c_len nb.len (de_var 2)))))) de_str de_str))
    (db_cons (s_set g.q (de_call g (h__law_drawn_matrix.mono (by decide)) (da_cons (de_var 0) (da_cons (de_var 1) (da_cons (de_plus de_int (de_mod (c_len nb.len (de_var 3)) de_int)) (da_cons de_int da_nil))))))
    (db_cons (s_new g.q (dn_lst (da_cons (de_handed (i := 0) g (Classical.choice (h__law_error _)) tb rfl (LamX.lamS_by (sc := defScope st__law_errors_right) (by decide +kernel)) rfl (fun _ _ _ _ _ => rfl) (fun A outer s H E f c2 hr hgd => (de_call (gd_lam g.nd hr hgd) (h_matrix_product.mono (by decide)) (da_cons (de_var 1) (da_cons (de_var 10) (da_cons (de_var 5) da_nil)))))) da_nil)))
    (db_cons (ds_do (de_append (de_var 7) (de_handed (i := 0) g (Classical.choice (h__law_error _)) tb rfl (LamX.lamS_by (sc := defScope st__law_errors_right) (by decide +kernel)) rfl (fun _ _ _ _ _ => rfl) (fun A outer s H E f c2 hr hgd => (de_call (gd_lam g.nd hr hgd) (h_matrix_product.mono (by decide)) (da_cons (de_var 1) (da_cons (de_var 10) (da_cons (de_var 10) (da_cons (de_var 5) da_nil)))))))))
    (db_cons (ds_do (de_append (de_var 7) (de_handed (i := 0) g (Classical.choice (h__law_error _)) tb rfl (LamX.lamS_by (sc := defScope st__law_errors_right) (by decide +kernel)) rfl (fun _ _ _ _ _ => rfl) (fun A outer s H E f c2 hr hgd => (de_call (gd_lam g.nd hr hgd) (h_matrix_product.mono (by decide)) (da_cons (de_var 1) (da_cons (de_var 2) (da_cons (de_var 14) da_nil))))))))
    (db_cons (ds_do (de_append (de_var 7) (de_handed (i := 0) g (Classical.choice (h__law_error _)) tb rfl (LamX.lamS_by (sc := defScope st__law_errors_right) (by decide +kernel)) rfl (fun _ _ _ _ _ => rfl) (fun A outer s H E f c2 hr hgd => (de_call (gd_lam g.nd hr hgd) (h_matrix_product.mono (by decide)) (da_cons (de_var 1) (da_cons (de_var 10) (da_cons (de_var 2) (da_cons (de_var 14) da_nil)))))))))
    (db_cons (ds_do (de_append (de_var 7) (de_handed (i := 0) g (Classical.choice (h__law_error _)) tb rfl (LamX.lamS_by (sc := defScope st__law_errors_right) (by decide +kernel)) rfl (fun _ _ _ _ _ => rfl) (fun A outer s H E f c2 hr hgd => (de_call (gd_lam g.nd hr hgd) (h_matrix_product.mono (by decide)) (da_cons (de_var 1) (da_cons (de_var 10) (da_cons (de_var 2) (da_cons de_non da_nil)))))))))
    (db_one (ds_ret (de_eq g.q (de_var 7) (de_lst (da_cons (de_var 13) (da_cons (de_var 13) (da_cons de_str (da_cons de_str (da_cons de_str da_nil)))))))))))))))))))))))))))
/-! ### _law_multiplied -/
abbrev st__law_multiplied : Stmt := topS 43
abbrev n__law_multiplied : List Str := [(Str.ofString "width"), (Str.ofString "some")]
theorem sc__law_multiplied : FnScope n__law_multiplied [(Str.ofString "width"), (Str.ofString "some")] (defScope st__law_multiplied) := ⟨rfl, rfl, rfl, by decide +kernel, rfl, by decide +kernel, by decide +kernel⟩
noncomputable def m__law_multiplied : Sm :=
    (sSeq (sIf (tVal (eBin pEq (eCa pLen (esCons (eVar 1) esNil)) (eLit (.int 1)))) (sRet (eCall f_matrix_product (esCons (eVar 0) (esCons (eBin pIx (eVar 1) (eLit (.int 0))) esNil)))) sNil)
    (sSeq (sIf (tVal (eBin pEq (eCa pLen (esCons (eVar 1) esNil)) (eLit (.int 2)))) (sRet (eCall f_matrix_product (esCons (eVar 0) (esCons (eBin pIx (eVar 1) (eLit (.int 0))) (esCons (eBin pIx (eVar 1) (eLit (.int 1))) esNil))))) sNil)
    (sSeq (sIf (tVal (eBin pEq (eCa pLen (esCons (eVar 1) esNil)) (eLit (.int 3)))) (sRet (eCall f_matrix_product (esCons (eVar 0) (esCons (eBin pIx (eVar 1) (eLit (.int 0))) (esCons (eBin pIx (eVar 1) (eLit (.int 1))) (esCons (eBin pIx (eVar 1) (eLit (.int 2))) esNil)))))) sNil)
    (sRet (eCall f_matrix_product (esCons (eVar 0) (esCons (eBin pIx (eVar 1) (eLit (.int 0))) (esCons (eBin pIx (eVar 1) (eLit (.int 1))) (esCons (eBin pIx (eVar 1) (eLit (.int 2))) (esCons (eBin pIx (eVar 1) (eLit (.int 3))) esNil))))))))))
noncomputable def f__law_multiplied : Fn := fun args S => if args.length = 2 then fnRun 0 (m__law_multiplied ) args S else none
theorem ok__law_multiplied (nb : NB mg) (h_matrix_product : FnG P w K mg base 8 (Str.ofString "matrix_product") f_matrix_product) {f : Addr} {fd : FuncData} (F : Fun K (Str.ofString "_law_multiplied") (Str.ofString "_law_multiplied") st__law_multiplied f fd) (hm : mg (Str.ofString "_law_multiplied") = some (.ref f)) : FnG P w K mg base 9 (Str.ofString "_law_multiplied") f__law_multiplied :=
  fn_def (m := m__law_multiplied ) F hm sc__law_multiplied rfl (fun _ _ _ _ _ _ us hl => match us, hl with | [_, _], _ => rfl) fun cdv A outer s H E g =>
    (db_cons (ds_if (dt_eq g.q (c_len nb.len (de_var 1)) de_int) (db_one (ds_ret (de_call g (h_matrix_product.mono (by decide)) (da_cons (de_var 0) (da_cons (de_ix (de_var 1) de_int) da_nil))))) db_nil)
    (db_cons (ds_if (dt_eq g.q (c_len nb.len (de_var 1)) de_int) (db_one (ds_ret (de_call g (h_matrix_product.mono (by decide)) (da_cons (de_var 0) (da_cons (de_ix (de_var 1) de_int) (da_cons (de_ix (de_var 1) de_int) da_nil)))))) db_nil)
    (db_cons (ds_if (dt_eq g.q (c_len nb.len (de_var 1)) de_int) (db_one (ds_ret (de_call g (h_matrix_product.mono (by decide)) (da_cons (de_var 0) (da_cons (de_ix (de_var 1) de_int) (da_cons (de_ix (de_var 1) de_int) (da_cons (de_ix (de_var 1) de_int) da_nil))))))) db_nil)
    (db_one (ds_ret (de_call g (h_matrix_product.mono (by decide)) (da_cons (de_var 0) (da_cons (de_ix (de_var 1) de_int) (da_cons (de_ix (de_var 1) de_int) (da_cons (de_ix (de_var 1) de_int) (da_cons (de_ix (de_var 1) de_int) da_nil)))))))))))
/-! ### _law_right -/
abbrev st__law_right : Stmt := topS 44
abbrev n__law_right : List Str := [(Str.ofString "width"), (Str.ofString "some"), (Str.ofString "vector"), (Str.ofString "whole"), (Str.ofString "last"), (Str.ofString "matrix"), (Str.ofString "row"), (Str.ofString "at"), (Str.ofString "parts")]
theorem sc__law_right : FnScope n__law_right [(Str.ofString "width"), (Str.ofString "some"), (Str.ofString "vector")] (defScope st__law_right) := ⟨rfl, rfl, rfl, by decide +kernel, rfl, by decide +kernel, by decide +kernel⟩
noncomputable def m__law_right : Sm :=
    (sSeq (sPar 3 4 (esCons (eBin pIx (eVar 1) (eLit (.int 0))) (esCons (eVar 2) esNil)))
    (sSeq (sFor (wSeq (eSl (eVar 1) (poS (eLit (.int 1))) poN)) (gVar 5) (sSet 3 (eCall f__law_product (esCons (eVar 0) (esCons (eVar 3) (esCons (eVar 5) esNil))))))
    (sSeq (sIf (tVal (eBin pNe (eCa pRepr (esCons (eCall f__law_multiplied (esCons (eVar 0) (esCons (eVar 1) esNil))) esNil)) (eCa pRepr (esCons (eVar 3) esNil)))) (sRet (eLit (.bool false))) sNil)
    (sSeq (sIf (tVal (eBin pNe (eCa pRepr (esCons (eCall f_matrix_times (esCons (eVar 0) (esCons (eVar 3) (esCons (eVar 2) esNil)))) esNil)) (eCa pRepr (esCons (eCa pTupOf (esCons (eComp (wSeq (eVar 3)) (gVar 6) tTrue (eCall f__law_dot (esCons (eVar 0) (esCons (eVar 6) (esCons (eVar 2) esNil)))) [6]) esNil)) esNil)))) (sRet (eLit (.bool false))) sNil)
    (sSeq (sFor (wSeq (eUn pRev (eVar 1))) (gVar 5) (sSet 4 (eCall f_matrix_times (esCons (eVar 0) (esCons (eVar 5) (esCons (eVar 4) esNil))))))
    (sSeq (sIf (tVal (eBin pNe (eVar 4) (eCall f_matrix_times (esCons (eVar 0) (esCons (eVar 3) (esCons (eVar 2) esNil)))))) (sRet (eLit (.bool false))) sNil)
    (sSeq (sFor (wRng2 (eLit (.int 1)) (eCa pLen (esCons (eVar 1) esNil))) (gVar 7) (sSeq (sSet 8 (eCa dispL (esCons (eCall f__law_multiplied (esCons (eVar 0) (esCons (eSl (eVar 1) poN (poS (eVar 7))) esNil))) (esCons (eCall f__law_multiplied (esCons (eVar 0) (esCons (eSl (eVar 1) (poS (eVar 7)) poN) esNil))) esNil))))
    (sIf (tVal (eBin pNe (eCall f_matrix_product (esCons (eVar 0) (esCons (eBin pIx (eVar 8) (eLit (.int 0))) (esCons (eBin pIx (eVar 8) (eLit (.int 1))) esNil)))) (eVar 3))) (sRet (eLit (.bool false))) sNil)))
    (sRet (eLit (.bool true))))))))))
noncomputable def f__law_right : Fn := fun args S => if args.length = 3 then fnRun 6 (m__law_right ) args S else none
theorem ok__law_right (nb : NB mg) (h_matrix_times : FnG P w K mg base 8 (Str.ofString "matrix_times") f_matrix_times) (h_matrix_product : FnG P w K mg base 8 (Str.ofString "matrix_product") f_matrix_product) (h__law_dot : FnG P w K mg base 1 (Str.ofString "_law_dot") f__law_dot) (h__law_product : FnG P w K mg base 2 (Str.ofString "_law_product") f__law_product) (h__law_multiplied : FnG P w K mg base 9 (Str.ofString "_law_multiplied") f__law_multiplied) {f : Addr} {fd : FuncData} (F : Fun K (Str.ofString "_law_right") (Str.ofString "_law_right") st__law_right f fd) (hm : mg (Str.ofString "_law_right") = some (.ref f)) : FnG P w K mg base 10 (Str.ofString "_law_right") f__law_right :=
  fn_def (m := m__law_right ) F hm sc__law_right rfl (fun _ _ _ _ _ _ us hl => match us, hl with | [_, _, _], _ => rfl) fun cdv A outer s H E g =>
    (db_cons (ds_par g.calm g.nd (da_cons (de_ix (de_var 1) de_int) (da_cons (de_var 2) da_nil)))
    (db_cons (ds_for g.po g.calm (di_seq (de_slice (de_var 1) (do_some de_int) do_none)) (dg_var g.nd) (db_one (s_set g.q (de_call g (h__law_product.mono (by decide)) (da_cons (de_var 0) (da_cons (de_var 3) (da_cons (de_var 5) da_nil)))))))
    (db_cons (ds_if (dt_ne g.q (c_repr g.q nb.repr (de_call g (h__law_multiplied.mono (by decide)) (da_cons (de_var 0) (da_cons (de_var 1) da_nil)))) (c_repr g.q nb.repr (de_var 3))) (db_one (ds_ret de_bl)) db_nil)
    (db_cons (ds_if (dt_ne g.q (c_repr g.q nb.repr (de_call g (h_matrix_times.mono (by decide)) (da_cons (de_var 0) (da_cons (de_var 3) (da_cons (de_var 2) da_nil))))) (c_repr g.q nb.repr (c_tuple nb.tuple (de_comp g.calm g.nd (di_seq (de_var 3)) (blkOk_by (own := [((Str.ofString "row"), 6)]) (N := n__law_right) (sc := defScope st__law_right) (by decide +kernel)) (by decide) (fun s H C cl fp => (dg_var (g.blk s H _ _ fp).nd)) (fun s H C cl fp => dts_nil) (fun s H C cl fp => (de_call (g.blk s H _ _ fp) (h__law_dot.mono (by decide)) (da_cons (de_var 0) (da_cons (de_var 6) (da_cons (de_var 2) da_nil))))))))) (db_one (ds_ret de_bl)) db_nil)
    (db_cons (ds_for g.po g.calm (di_seq (de_rev (de_var 1))) (dg_var g.nd) (db_one (s_set g.q (de_call g (h_matrix_times.mono (by decide)) (da_cons (de_var 0) (da_cons (de_var 5) (da_cons (de_var 4) da_nil)))))))
    (db_cons (ds_if (dt_ne g.q (de_var 4) (de_call g (h_matrix_times.mono (by decide)) (da_cons (de_var 0) (da_cons (de_var 3) (da_cons (de_var 2) da_nil))))) (db_one (ds_ret de_bl)) db_nil)
    (db_cons (ds_for g.po g.calm (di_rng2 nb.range de_int (c_len nb.len (de_var 1))) (dg_var g.nd) (db_cons (s_set g.q (de_lst (da_cons (de_call g (h__law_multiplied.mono (by decide)) (da_cons (de_var 0) (da_cons (de_slice (de_var 1) do_none (do_some (de_var 7))) da_nil))) (da_cons (de_call g (h__law_multiplied.mono (by decide)) (da_cons (de_var 0) (da_cons (de_slice (de_var 1) (do_some (de_var 7)) do_none) da_nil))) da_nil))))
    (db_one (ds_if (dt_ne g.q (de_call g (h_matrix_product.mono (by decide)) (da_cons (de_var 0) (da_cons (de_ix (de_var 8) de_int) (da_cons (de_ix (de_var 8) de_int) da_nil)))) (de_var 3)) (db_one (ds_ret de_bl)) db_nil))))
    (db_one (ds_ret de_bl)))))))))
/-! ### law -/
abbrev st_law : Stmt := topS 45
abbrev n_law : List Str := [(Str.ofString "script"), (Str.ofString "k"), (Str.ofString "stream"), (Str.ofString "width"), (Str.ofString "sides"), (Str.ofString "turn"), (Str.ofString "some"), (Str.ofString "one"), (Str.ofString "other"), (Str.ofString "vector"), (Str.ofString "before"), (Str.ofString "double"), (Str.ofString "slide"), (Str.ofString "nine")]
theorem sc_law : FnScope n_law [(Str.ofString "script")] (defScope st_law) := ⟨rfl, rfl, rfl, by decide +kernel, rfl, by decide +kernel, by decide +kernel⟩
noncomputable def m_law (tp : Nat → Addr) : Sm :=
    (sSeq (sFor (wRng1 (eCa pMax (esCons (eLit (.int 1)) (esCons (eCa pMin (esCons (eLit (.int 8)) (esCons (eCa pLen (esCons (eVar 0) esNil)) esNil))) esNil)))) (gVar 1) (sSeq (sNew 2 (nCall f__law_stream (esCons (eVar 0) (esCons (eVar 1) esNil))))
    (sSeq (sAsg (gPair (gVar 3) (gVar 4)) (eCa dispT (esCons (eCall f__law_any_width (esCons (eVar 2) esNil)) (esCons (eComp (wRng1 (eBin pPlus (eLit (.int 2)) (eCall f__law_draw (esCons (eVar 2) (esCons (eLit (.int 4)) esNil))))) (gVar 5) tTrue (eBin pPlus (eLit (.int 1)) (eCall f__law_draw (esCons (eVar 2) (esCons (eLit (.int 5)) esNil)))) [5]) esNil))))
    (sSeq (sSet 6 (eComp (wZip2 (eVar 4) (eSl (eVar 4) (poS (eLit (.int 1))) poN)) (gPair (gVar 7) (gVar 8)) tTrue (eCall f__law_drawn_matrix (esCons (eVar 2) (esCons (eVar 3) (esCons (eVar 7) (esCons (eVar 8) esNil))))) [7, 8]))
    (sSeq (sSet 9 (eCall f__law_row (esCons (eVar 2) (esCons (eVar 3) (esCons (eBin pIx (eVar 4) (eNeg (eLit (.int 1)))) esNil)))))
    (sSeq (sSet 10 (eCa pRepr (esCons (eCa dispT (esCons (eVar 6) (esCons (eVar 9) esNil))) esNil)))
    (sSeq (sIf (tOr_ (tNt (tVal (eCall f__law_right (esCons (eVar 3) (esCons (eVar 6) (esCons (eVar 9) esNil)))))) (tVal (eBin pNe (eCa pRepr (esCons (eCa dispT (esCons (eVar 6) (esCons (eVar 9) esNil))) esNil)) (eVar 10)))) (sRet (eLit (.bool false))) sNil)
    (sIf (tNt (tVal (eCall (f__law_errors_right tp) (esCons (eVar 2) (esCons (eVar 3) (esCons (eBin pIx (eVar 6) (eNeg (eLit (.int 1)))) (esCons (eVar 9) esNil))))))) (sRet (eLit (.bool false))) sNil))))))))
    (sSeq (sAsg (gPair (gVar 11) (gVar 12)) (eCa dispT (esCons (eCa dispT (esCons (eCa dispT (esCons (eLit (.int 1)) (esCons (eLit (.int 0)) esNil))) (esCons (eCa dispT (esCons (eLit (.int 6)) (esCons (eLit (.int 2)) esNil))) esNil))) (esCons (eCa dispT (esCons (eCa dispT (esCons (eLit (.int 1)) (esCons (eLit (.int 1)) esNil))) (esCons (eCa dispT (esCons (eLit (.int 0)) (esCons (eLit (.int 1)) esNil))) esNil))) esNil))))
    (sSeq (sSet 13 (eCall f_matrix_product (esCons (eLit (.int 4)) (esCons (eVar 12) (esCons (eVar 12) (esCons (eVar 12) (esCons (eVar 12) (esCons (eVar 12) (esCons (eVar 12) (esCons (eVar 12) (esCons (eVar 12) (esCons (eVar 12) esNil))))))))))))
    (sRet (eAnd (eBin pEq (eVar 13) (eCa dispT (esCons (eCa dispT (esCons (eLit (.int 1)) (esCons (eLit (.int 9)) esNil))) (esCons (eCa dispT (esCons (eLit (.int 0)) (esCons (eLit (.int 1)) esNil))) esNil)))) (eBin pEq (eCall f_matrix_product (esCons (eLit (.int 4)) (esCons (eVar 11) (esCons (eVar 11) (esCons (eCa dispT (esCons (eCa dispT (esCons (eLit (.int 1)) (esCons (eLit (.int 0)) esNil))) (esCons (eCa dispT (esCons (eLit (.int 1)) (esCons (eLit (.int 1)) esNil))) esNil))) esNil))))) (eCa dispT (esCons (eCa dispT (esCons (eLit (.int 1)) (esCons (eLit (.int 0)) esNil))) (esCons (eCa dispT (esCons (eLit (.int 6)) (esCons (eLit (.int 4)) esNil))) esNil)))))))))
noncomputable def f_law (tp : Nat → Addr) : Fn := fun args S => if args.length = 1 then fnRun 13 (m_law tp ) args S else none
theorem ok_law {tp : Nat → Addr} (nb : NB mg) (h_matrix_product : FnG P w K mg base 8 (Str.ofString "matrix_product") f_matrix_product) (h__law_stream : FnG P w K mg base 1 (Str.ofString "_law_stream") f__law_stream) (h__law_draw : FnG P w K mg base 1 (Str.ofString "_law_draw") f__law_draw) (h__law_row : FnG P w K mg base 2 (Str.ofString "_law_row") f__law_row) (h__law_any_width : FnG P w K mg base 2 (Str.ofString "_law_any_width") f__law_any_width) (h__law_drawn_matrix : FnG P w K mg base 3 (Str.ofString "_law_drawn_matrix") f__law_drawn_matrix) (h__law_errors_right : FnG P w K mg base 12 (Str.ofString "_law_errors_right") (f__law_errors_right tp)) (h__law_right : FnG P w K mg base 10 (Str.ofString "_law_right") f__law_right) {f : Addr} {fd : FuncData} (F : Fun K (Str.ofString "law") (Str.ofString "law") st_law f fd) (hm : mg (Str.ofString "law") = some (.ref f)) : FnG P w K mg base 13 (Str.ofString "law") (f_law tp) :=
  fn_def (m := m_law tp ) F hm sc_law rfl (fun _ _ _ _ _ _ us hl => match us, hl with | [_], _ => rfl) fun cdv A outer s H E g =>
    (db_cons (ds_for g.po g.calm (di_rng1 nb.range (c_max g nb.max de_int (c_min g nb.min de_int (c_len nb.len (de_var 0))))) (dg_var g.nd) (db_cons (s_new g.q (dn_call g (h__law_stream.mono (by decide)) (da_cons (de_var 0) (da_cons (de_var 1) da_nil))))
    (db_cons (ds_asg (de_tup (da_cons (de_call g (h__law_any_width.mono (by decide)) (da_cons (de_var 2) da_nil)) (da_cons (de_comp g.calm g.nd (di_rng1 nb.range (de_plus de_int (de_call g (h__law_draw.mono (by decide)) (da_cons (de_var 2) (da_cons de_int da_nil))))) (blkOk_by (own := [((Str.ofString "turn"), 5)]) (N := n_law) (sc := defScope st_law) (by decide +kernel)) (by decide) (fun s H C cl fp => (dg_var (g.blk s H _ _ fp).nd)) (fun s H C cl fp => dts_nil) (fun s H C cl fp => (de_plus de_int (de_call (g.blk s H _ _ fp) (h__law_draw.mono (by decide)) (da_cons (de_var 2) (da_cons de_int da_nil)))))) da_nil))) (dg_pair g.calm (dg_var g.nd) (dg_var g.nd)))
    (db_cons (ds_setLc g.calm g.nd rfl rfl (sw_true rfl rfl rfl (by decide +kernel)) (di_zip2 nb.zip (de_var 4) (de_slice (de_var 4) (do_some de_int) do_none)) (blkOk_by (own := [((Str.ofString "one"), 7), ((Str.ofString "other"), 8)]) (N := n_law) (sc := defScope st_law) (by decide +kernel)) (by decide) (fun s H C cl fp => (dg_pair (g.blk s H _ _ fp).calm (dg_var (g.blk s H _ _ fp).nd) (dg_var (g.blk s H _ _ fp).nd))) (fun s H C cl fp => dts_nil) (fun s H C cl fp => (de_call (g.blk s H _ _ fp) (h__law_drawn_matrix.mono (by decide)) (da_cons (de_var 2) (da_cons (de_var 3) (da_cons (de_var 7) (da_cons (de_var 8) da_nil)))))))
    (db_cons (s_set g.q (de_call g (h__law_row.mono (by decide)) (da_cons (de_var 2) (da_cons (de_var 3) (da_cons (de_ix (de_var 4) (de_neg de_int)) da_nil)))))
    (db_cons (s_set g.q (c_repr g.q nb.repr (de_tup (da_cons (de_var 6) (da_cons (de_var 9) da_nil)))))
    (db_cons (ds_if (dt_w (dw_or (dt_not (dt_val (de_call g (h__law_right.mono (by decide)) (da_cons (de_var 3) (da_cons (de_var 6) (da_cons (de_var 9) da_nil)))))) (dw_or1 (dt_ne g.q (c_repr g.q nb.repr (de_tup (da_cons (de_var 6) (da_cons (de_var 9) da_nil)))) (de_var 10))))) (db_one (ds_ret de_bl)) db_nil)
    (db_one (ds_if (dt_not (dt_val (de_call g (h__law_errors_right.mono (by decide)) (da_cons (de_var 2) (da_cons (de_var 3) (da_cons (de_ix (de_var 6) (de_neg de_int)) (da_cons (de_var 9) da_nil))))))) (db_one (ds_ret de_bl)) db_nil)))))))))
    (db_cons (ds_asg (de_tup (da_cons (de_tup (da_cons (de_tup (da_cons de_int (da_cons de_int da_nil))) (da_cons (de_tup (da_cons de_int (da_cons de_int da_nil))) da_nil))) (da_cons (de_tup (da_cons (de_tup (da_cons de_int (da_cons de_int da_nil))) (da_cons (de_tup (da_cons de_int (da_cons de_int da_nil))) da_nil))) da_nil))) (dg_pair g.calm (dg_var g.nd) (dg_var g.nd)))
    (db_cons (s_set g.q (de_call g (h_matrix_product.mono (by decide)) (da_cons de_int (da_cons (de_var 12) (da_cons (de_var 12) (da_cons (de_var 12) (da_cons (de_var 12) (da_cons (de_var 12) (da_cons (de_var 12) (da_cons (de_var 12) (da_cons (de_var 12) (da_cons (de_var 12) da_nil))))))))))))
    (db_one (ds_ret (de_and (de_eq g.q (de_var 13) (de_tup (da_cons (de_tup (da_cons de_int (da_cons de_int da_nil))) (da_cons (de_tup (da_cons de_int (da_cons de_int da_nil))) da_nil)))) (de_one (de_eq g.q (de_call g (h_matrix_product.mono (by decide)) (da_cons de_int (da_cons (de_var 11) (da_cons (de_var 11) (da_cons (de_tup (da_cons (de_tup (da_cons de_int (da_cons de_int da_nil))) (da_cons (de_tup (da_cons de_int (da_cons de_int da_nil))) da_nil))) da_nil))))) (de_tup (da_cons (de_tup (da_cons de_int (da_cons de_int da_nil))) (da_cons (de_tup (da_cons de_int (da_cons de_int da_nil))) da_nil)))))))))))
end
end T
set_option maxRecDepth 100000
set_option maxHeartbeats 1000000
namespace Z
open PySem PySem.Spec PyProof.Rows L2

/-! ## data of a bounded size -/
mutual
/-- a measure: above the signs of a repr -/
def ms : PyData → Nat
  | .none => 4
  | .bool _ => 5
  | .int i => i.natAbs.log2 + 3
  | .str x => 10 * x.length + 2
  | .list xs => mss xs + 3
  | .tuple xs => mss xs + 3
  | .dict kvs => (PyData.shown (.dict kvs)).length + 2
def mss : List PyData → Nat
  | [] => 0
  | x :: xs => ms x + 2 + mss xs
end
def asc (x : Str) : Bool := x.cps.toList.all fun c => decide (c < 128)
def okKv (b : Nat) (kvs : List (PyData × PyData)) : Bool := match kvs with
  | [] => true
  | [(.int i, .int j)] => decide (i.natAbs.log2 < b) && decide (j.natAbs.log2 < b)
  | _ => false
theorem okKv_of {b : Nat} {kvs : List (PyData × PyData)} (h : okKv b kvs = true) : kvs = [] ∨ ∃ i j : Int, kvs = [(.int i, .int j)] ∧ i.natAbs.log2 < b ∧ j.natAbs.log2 < b := by
  unfold okKv at h
  split at h
  · exact .inl rfl
  · rename_i i j
    simp only [Bool.and_eq_true, decide_eq_true_eq] at h
    exact .inr ⟨i, j, rfl, h⟩
  · cases h
mutual
/-- ints below 2 ^ b, ASCII texts, dicts that are {} or {int: int} -/
def okS (b : Nat) : PyData → Bool
  | .none => true
  | .bool _ => true
  | .int i => decide (i.natAbs.log2 < b)
  | .str x => asc x
  | .list xs => okSs b xs
  | .tuple xs => okSs b xs
  | .dict kvs => okKv b kvs
def okSs (b : Nat) : List PyData → Bool
  | [] => true
  | x :: xs => okS b x && okSs b xs
end
theorem mss_app (xs ys : List PyData) : mss (xs ++ ys) = mss xs + mss ys := by
  induction xs with
  | nil => simp [mss]
  | cons x xs ih => simp only [List.cons_append, mss, ih]; omega
theorem mss_mem {d : PyData} : ∀ {xs : List PyData}, d ∈ xs → ms d + 2 ≤ mss xs
  | x :: xs, h => by
    rcases List.mem_cons.mp h with rfl | h
    · simp only [mss]; omega
    · have := mss_mem h
      simp only [mss]; omega
theorem mss_len (xs : List PyData) : 2 * xs.length ≤ mss xs := by
  induction xs with
  | nil => simp [mss]
  | cons x xs ih => simp only [List.length_cons, mss]; omega
theorem mss_take (xs : List PyData) (n : Nat) : mss (xs.take n) ≤ mss xs := by
  have h := mss_app (xs.take n) (xs.drop n)
  rw [List.take_append_drop] at h
  omega
theorem mss_drop (xs : List PyData) (n : Nat) : mss (xs.drop n) ≤ mss xs := by
  have h := mss_app (xs.take n) (xs.drop n)
  rw [List.take_append_drop] at h
  omega
theorem mss_rev (xs : List PyData) : mss xs.reverse = mss xs := by
  induction xs with
  | nil => rfl
  | cons x xs ih => rw [List.reverse_cons, mss_app, ih]; simp only [mss]; omega
theorem mss_cut (xs : List PyData) (lo hi : Option Int) : mss (cutD xs lo hi) ≤ mss xs := Nat.le_trans (mss_take _ _) (mss_drop _ _)
theorem okSs_app {b : Nat} (xs ys : List PyData) : okSs b (xs ++ ys) = (okSs b xs && okSs b ys) := by
  induction xs with
  | nil => simp [okSs]
  | cons x xs ih => simp only [List.cons_append, okSs, ih, Bool.and_assoc]
theorem okSs_mem {b : Nat} {d : PyData} : ∀ {xs : List PyData}, okSs b xs = true → d ∈ xs → okS b d = true
  | x :: xs, h, m => by
    simp only [okSs, Bool.and_eq_true] at h
    rcases List.mem_cons.mp m with rfl | m
    · exact h.1
    · exact okSs_mem h.2 m
theorem okSs_of {b : Nat} : ∀ {xs : List PyData}, (∀ d ∈ xs, okS b d = true) → okSs b xs = true
  | [], _ => by simp [okSs]
  | x :: xs, h => by
    simp only [okSs, Bool.and_eq_true]
    exact ⟨h x List.mem_cons_self, okSs_of fun d m => h d (List.mem_cons_of_mem _ m)⟩
theorem okSs_sub {b : Nat} {xs ys : List PyData} (h : okSs b xs = true) (s : ∀ d ∈ ys, d ∈ xs) : okSs b ys = true := okSs_of fun d m => okSs_mem h (s d m)
theorem cut_mem {xs : List PyData} {lo hi : Option Int} {d : PyData} (h : d ∈ cutD xs lo hi) : d ∈ xs := List.mem_of_mem_drop (List.mem_of_mem_take h)
mutual
theorem okS_mono {b c : Nat} (h : b ≤ c) : ∀ d : PyData, okS b d = true → okS c d = true
  | .none, _ => by simp [okS]
  | .bool _, _ => by simp [okS]
  | .int i, q => by simp only [okS, decide_eq_true_eq] at q ⊢; omega
  | .str x, q => by simp only [okS] at q ⊢; exact q
  | .list xs, q => by simp only [okS] at q ⊢; exact okSs_mono h xs q
  | .tuple xs, q => by simp only [okS] at q ⊢; exact okSs_mono h xs q
  | .dict kvs, q => by
    simp only [okS] at q ⊢
    rcases okKv_of q with rfl | ⟨i, j, rfl, h1, h2⟩
    · rfl
    · simp only [okKv, Bool.and_eq_true, decide_eq_true_eq]; omega
theorem okSs_mono {b c : Nat} (h : b ≤ c) : ∀ ds : List PyData, okSs b ds = true → okSs c ds = true
  | [], _ => by simp [okSs]
  | d :: ds, q => by
    simp only [okSs, Bool.and_eq_true] at q ⊢
    exact ⟨okS_mono h d q.1, okSs_mono h ds q.2⟩
end
theorem okS_dict {b : Nat} {kvs : List (PyData × PyData)} (h : okS b (.dict kvs) = true) : kvs = [] ∨ ∃ i j : Int, kvs = [(.int i, .int j)] ∧ i.natAbs.log2 < b ∧ j.natAbs.log2 < b := okKv_of (by simpa [okS] using h)
mutual
theorem sz_ms {b : Nat} : ∀ d : PyData, okS b d = true → szR d ≤ ms d
  | .none, _ => by simp [szR, ms]
  | .bool _, _ => by simp [szR, ms]
  | .int i, _ => by simp [szR, ms]
  | .str x, h => by
    simp only [szR, ms]
    refine PySem.StrLaws.reprText_len x fun c hc => ?_
    simp only [okS, asc, List.all_eq_true, decide_eq_true_eq] at h
    have := h c hc
    omega
  | .list xs, h => by
    have := szs_ms xs (by simpa [okS] using h)
    simp only [szR, ms]; omega
  | .tuple xs, h => by
    have := szs_ms xs (by simpa [okS] using h)
    simp only [szR, ms]; omega
  | .dict kvs, _ => by simp only [szR, ms]; omega
theorem szs_ms {b : Nat} : ∀ ds : List PyData, okSs b ds = true → szRs ds ≤ mss ds
  | [], _ => by simp [szRs, mss]
  | d :: ds, h => by
    simp only [okSs, Bool.and_eq_true] at h
    have h1 := sz_ms d h.1
    have h2 := szs_ms ds h.2
    simp only [szRs, mss]; omega
end
mutual
theorem show_okS {b : Nat} (hb : b ≤ 1920) : ∀ d : PyData, okS b d = true → d.showable = true
  | .none, _ => by simp [PyData.showable]
  | .bool _, _ => by simp [PyData.showable]
  | .int i, h => by simp only [okS, decide_eq_true_eq] at h; simp only [PyData.showable, decide_eq_true_eq]; omega
  | .str x, _ => by simp [PyData.showable]
  | .list xs, h => by simp only [PyData.showable]; exact show_okSs hb xs (by simpa [okS] using h)
  | .tuple xs, h => by simp only [PyData.showable]; exact show_okSs hb xs (by simpa [okS] using h)
  | .dict kvs, h => by
    rcases okS_dict h with rfl | ⟨i, j, rfl, h1, h2⟩
    · simp [PyData.showable, PyData.showableKv]
    · have h1' : i.natAbs.log2 < 1920 := by omega
      have h2' : j.natAbs.log2 < 1920 := by omega
      simp [PyData.showable, PyData.showableKv, h1', h2']
theorem show_okSs {b : Nat} (hb : b ≤ 1920) : ∀ ds : List PyData, okSs b ds = true → PyData.showableAll ds = true
  | [], _ => by simp [PyData.showableAll]
  | d :: ds, h => by
    simp only [okSs, Bool.and_eq_true] at h
    simp only [PyData.showableAll, Bool.and_eq_true]
    exact ⟨show_okS hb d h.1, show_okSs hb ds h.2⟩
end
/-- bounded: ints, depth, size -/
structure Sz (b dep sz : Nat) (d : PyData) : Prop where
  b : okS b d = true
  p : d.depth ≤ dep
  z : ms d ≤ sz
structure Szs (b dep sz : Nat) (ds : List PyData) : Prop where
  b : okSs b ds = true
  p : PyData.depthAll ds ≤ dep
  z : mss ds ≤ sz
def smD (b dep sz : Nat) (d : PyData) : Bool := okS b d && decide (d.depth ≤ dep) && decide (ms d ≤ sz)
theorem Sz.of {b dep sz : Nat} {d : PyData} (h : smD b dep sz d = true) : Sz b dep sz d := by
  simp only [smD, Bool.and_eq_true, decide_eq_true_eq] at h
  exact ⟨h.1.1, h.1.2, h.2⟩
section
variable {b dep sz sz2 b' dep' sz' : Nat} {d : PyData} {ds es : List PyData}
theorem Sz.mono (h : Sz b dep sz d) (h1 : b ≤ b') (h2 : dep ≤ dep') (h3 : sz ≤ sz') : Sz b' dep' sz' d := ⟨okS_mono h1 d h.b, Nat.le_trans h.p h2, Nat.le_trans h.z h3⟩
theorem Szs.mono (h : Szs b dep sz ds) (h1 : b ≤ b') (h2 : dep ≤ dep') (h3 : sz ≤ sz') : Szs b' dep' sz' ds := ⟨okSs_mono h1 ds h.b, Nat.le_trans h.p h2, Nat.le_trans h.z h3⟩
theorem Sz.okR (h : Sz b dep sz d) (h1 : b ≤ 1920 := by omega) (h2 : dep ≤ 100 := by omega) (h3 : sz ≤ 16777216 := by omega) : okR d :=
  okR_of (show_okS h1 d h.b) (Nat.le_trans h.p h2) (Nat.le_trans (sz_ms d h.b) (Nat.le_trans h.z (by rw [sizeLine_eq]; exact h3)))
theorem depth_mem : ∀ {ds : List PyData} {d : PyData}, d ∈ ds → d.depth ≤ PyData.depthAll ds
  | x :: xs, d, h => by
    simp only [PyData.depthAll]
    rcases List.mem_cons.mp h with rfl | h
    · omega
    · have := depth_mem h; omega
theorem depth_of : ∀ {ds : List PyData} {n : Nat}, (∀ d ∈ ds, d.depth ≤ n) → PyData.depthAll ds ≤ n
  | [], _, _ => by simp [PyData.depthAll]
  | x :: xs, n, h => by
    simp only [PyData.depthAll]
    have h1 := h x List.mem_cons_self
    have h2 := depth_of fun d m => h d (List.mem_cons_of_mem _ m)
    omega
theorem Szs.nil : Szs b dep sz [] := ⟨by simp [okSs], by simp [PyData.depthAll], by simp [mss]⟩
theorem Szs.cons (h : Sz b dep sz d) (r : Szs b dep sz2 ds) : Szs b dep (sz + 2 + sz2) (d :: ds) :=
  ⟨by simp [okSs, h.b, r.b], by have := h.p; have := r.p; simp only [PyData.depthAll]; omega, by have := h.z; have := r.z; simp only [mss]; omega⟩
theorem Szs.app (h : Szs b dep sz ds) (r : Szs b dep sz2 es) : Szs b dep (sz + sz2) (ds ++ es) :=
  ⟨by rw [okSs_app, h.b, r.b]; rfl, depth_of fun d m => (List.mem_append.mp m).elim (fun m => Nat.le_trans (depth_mem m) h.p) fun m => Nat.le_trans (depth_mem m) r.p, by have := h.z; have := r.z; rw [mss_app]; omega⟩
theorem Szs.sub (h : Szs b dep sz ds) (s : ∀ d ∈ es, d ∈ ds) (z : mss es ≤ sz) : Szs b dep sz es := ⟨okSs_sub h.b s, depth_of fun d m => Nat.le_trans (depth_mem (s d m)) h.p, z⟩
theorem Szs.cut (h : Szs b dep sz ds) (lo hi : Option Int) : Szs b dep sz (cutD ds lo hi) := h.sub (fun _ => cut_mem) (Nat.le_trans (mss_cut _ _ _) h.z)
theorem Szs.rev (h : Szs b dep sz ds) : Szs b dep sz ds.reverse := h.sub (fun _ m => List.mem_reverse.mp m) (by rw [mss_rev]; exact h.z)
theorem Szs.mem (h : Szs b dep sz ds) (m : d ∈ ds) : Sz b dep sz d := ⟨okSs_mem h.b m, Nat.le_trans (depth_mem m) h.p, by have := mss_mem m; have := h.z; omega⟩
theorem Szs.len (h : Szs b dep sz ds) : 2 * ds.length ≤ sz := Nat.le_trans (mss_len ds) h.z
theorem Szs.tup (h : Szs b dep sz ds) : Sz b (dep + 1) (sz + 3) (.tuple ds) := ⟨by simp only [okS]; exact h.b, by have := h.p; simp only [PyData.depth]; omega, by have := h.z; simp only [ms]; omega⟩
theorem Szs.lst (h : Szs b dep sz ds) : Sz b (dep + 1) (sz + 3) (.list ds) := ⟨by simp only [okS]; exact h.b, by have := h.p; simp only [PyData.depth]; omega, by have := h.z; simp only [ms]; omega⟩
theorem Sz.tupI (h : Sz b dep sz (.tuple ds)) : Szs b (dep - 1) (sz - 3) ds ∧ 1 ≤ dep ∧ 3 ≤ sz := by
  have h1 := h.b
  have h2 := h.p
  have h3 := h.z
  simp only [okS] at h1
  simp only [PyData.depth] at h2
  simp only [ms] at h3
  exact ⟨⟨h1, by omega, by omega⟩, by omega, by omega⟩
theorem Sz.lstI (h : Sz b dep sz (.list ds)) : Szs b (dep - 1) (sz - 3) ds ∧ 1 ≤ dep ∧ 3 ≤ sz := by
  have h1 := h.b
  have h2 := h.p
  have h3 := h.z
  simp only [okS] at h1
  simp only [PyData.depth] at h2
  simp only [ms] at h3
  exact ⟨⟨h1, by omega, by omega⟩, by omega, by omega⟩
theorem Sz.int {i : Int} (h : i.natAbs.log2 < b) : Sz b dep (b + 2) (.int i) := ⟨by simp only [okS, decide_eq_true_eq]; exact h, by simp [PyData.depth], by simp only [ms]; omega⟩
theorem Sz.bool {c : Bool} : Sz b dep 5 (.bool c) := ⟨by simp [okS], by simp [PyData.depth], by simp [ms]⟩
theorem Sz.none : Sz b dep 4 .none := ⟨by simp [okS], by simp [PyData.depth], by simp [ms]⟩
theorem Sz.str {x : Str} (h : asc x = true) : Sz b dep (10 * x.length + 2) (.str x) := ⟨by simp only [okS]; exact h, by simp [PyData.depth], by simp only [ms]; omega⟩
end
/-- ints of some bits -/
theorem log_lt {i : Int} {n : Nat} (h : i.natAbs < 2 ^ n) (hn : 0 < n) : i.natAbs.log2 < n := by
  by_cases h0 : i.natAbs = 0
  · rw [h0]; simpa using hn
  · exact (Nat.log2_lt h0).mpr h
theorem lt_log {i : Int} {n : Nat} (h : i.natAbs.log2 < n) : i.natAbs < 2 ^ n := by
  by_cases h0 : i.natAbs = 0
  · rw [h0]; exact Nat.pow_pos (by omega)
  · exact (Nat.log2_lt h0).mp h
theorem log_add {i j : Int} {n : Nat} (h : i.natAbs.log2 < n) (hj : j.natAbs < 2 ^ n) : (i + j).natAbs.log2 < n + 1 := by
  refine log_lt ?_ (by omega)
  have := lt_log h
  have := Int.natAbs_add_le i j
  rw [Nat.pow_succ]
  omega
theorem log_neg {i : Int} {n : Nat} (h : i.natAbs.log2 < n) : (-i).natAbs.log2 < n := by rw [Int.natAbs_neg]; exact h
end Z
set_option maxRecDepth 100000
set_option maxHeartbeats 4000000
namespace T
open PySem PySem.Spec PyProof.Rows L2 Z
/-! ## the stream of draws -/
/-- a stream stands at i -/
def StrAt (S : Sto) (i : Nat) : Prop := ∃ a b c : Int, 0 ≤ a ∧ S[i]? = some (.lst [.int a, .int b, .int c])
/-- S' is S with another stream at i -/
def Dr (S : Sto) (i : Nat) (S' : Sto) : Prop := ∃ a b c : Int, 0 ≤ a ∧ S' = S.set i (.lst [.int a, .int b, .int c])
theorem Dr.at {S S' : Sto} {i : Nat} (h : Dr S i S') (hi : i < S.length) : StrAt S' i := by
  obtain ⟨a, b, c, ha, rfl⟩ := h
  exact ⟨a, b, c, ha, by rw [List.getElem?_set_self hi]⟩
theorem StrAt.lt {S : Sto} {i : Nat} (h : StrAt S i) : i < S.length := by
  obtain ⟨a, b, c, _, e⟩ := h
  exact (List.getElem?_eq_some_iff.mp e).1
theorem Dr.trans {S S1 S2 : Sto} {i : Nat} (h : Dr S i S1) (h2 : Dr S1 i S2) : Dr S i S2 := by
  obtain ⟨a, b, c, ha, rfl⟩ := h
  obtain ⟨a', b', c', ha', rfl⟩ := h2
  exact ⟨a', b', c', ha', by rw [List.set_set]⟩
theorem Dr.len {S S' : Sto} {i : Nat} (h : Dr S i S') : S'.length = S.length := by
  obtain ⟨a, b, c, ha, rfl⟩ := h
  simp
theorem Dr.self {S : Sto} {i : Nat} (h : StrAt S i) : Dr S i S := by
  obtain ⟨a, b, c, ha, e⟩ := h
  refine ⟨a, b, c, ha, ?_⟩
  apply List.ext_getElem?
  intro j
  by_cases hj : i = j
  · subst hj
    rw [List.getElem?_set_self (List.getElem?_eq_some_iff.mp e).1, e]
  · rw [List.getElem?_set_ne hj]
theorem take_set {S : Sto} {i : Nat} {o : Ob} : (S.set i o).take S.length = S.set i o := by
  rw [List.take_of_length_le (by simp)]
theorem draw_pos {S : Sto} {i : Nat} {a b c n : Int} (hS : S[i]? = some (.lst [.int a, .int b, .int c])) (ha : 0 < a) (hn : 0 < n) (hn2 : n < 18446744073709551616) :
    f__law_draw [.r i, .d (.int n)] S = some (.ok (.d (.int (a % n))) (S.set i (.lst [.int (a / n), .int b, .int c]))) := by
  have hi := (List.getElem?_eq_some_iff.mp hS).1
  simp [f__law_draw, m__law_draw, hS, atI, ixN, ha, hn, hn2, take_set]
def dr1 (b c : Int) : Int := (b + 1000033 * (c + 1)) % 2305843009213693951
def dr2 (b c : Int) : Int := (dr1 b c * dr1 b c % 2305843009213693921 * dr1 b c + 7919 * (c + 1)) % 2305843009213693907
theorem draw_zero {S : Sto} {i : Nat} {b c n : Int} (hS : S[i]? = some (.lst [.int 0, .int b, .int c])) (hn : 0 < n) :
    f__law_draw [.r i, .d (.int n)] S = some (.ok (.d (.int (dr2 b c / 8192 % n))) (S.set i (.lst [.int 0, .int b, .int (c + 1)]))) := by
  have hi := (List.getElem?_eq_some_iff.mp hS).1
  have sh1 : ∀ x : Int, short (x % 2305843009213693951) := fun x => by
    have h1 := Int.emod_nonneg x (show (2305843009213693951 : Int) ≠ 0 by decide)
    have h2 := Int.emod_lt_of_pos x (show (0 : Int) < 2305843009213693951 by decide)
    exact ⟨by omega, by omega⟩
  have k1 : short 1000033 := by unfold short; omega
  have k2 : short 7919 := by unfold short; omega
  have gs : ∀ o, (S.set i o)[i]? = some o := fun o => List.getElem?_set_self hi
  simp [f__law_draw, m__law_draw, hS, atI, ixN, hn, gs, k1, k2, sh1, List.set_set, take_set, dr1, dr2]
theorem draw {S : Sto} {i : Nat} {n : Int} (h : StrAt S i) (hn : 0 < n) (hn2 : n < 18446744073709551616) :
    ∃ (v : Int) (S' : Sto), 0 ≤ v ∧ v < n ∧ Dr S i S' ∧ f__law_draw [.r i, .d (.int n)] S = some (.ok (.d (.int v)) S') := by
  obtain ⟨a, b, c, ha, e⟩ := h
  by_cases h0 : 0 < a
  · exact ⟨a % n, _, Int.emod_nonneg _ (by omega), Int.emod_lt_of_pos _ hn, ⟨_, _, _, Int.ediv_nonneg ha (by omega), rfl⟩, draw_pos e h0 hn hn2⟩
  · have : a = 0 := by omega
    subst this
    exact ⟨_, _, Int.emod_nonneg _ (by omega), Int.emod_lt_of_pos _ hn, ⟨0, _, _, Int.le_refl _, rfl⟩, draw_zero e hn⟩
end T
set_option maxRecDepth 100000
set_option maxHeartbeats 4000000
namespace T
open PySem PySem.Spec PyProof.Rows L2 Z
theorem stream {ns : List Int} {k : Nat} {S : Sto} : ∃ a b : Int, 0 ≤ a ∧ f__law_stream [.s ns, .d (.int k)] S = some (.nw (.lst [.int a, .int b, .int 0]) S) := by
  have k1 : short 69621 := by unfold short; omega
  have k2 : short 1009 := by unfold short; omega
  have k3 : short 11 := by unfold short; omega
  have k4 : short 3 := by unfold short; omega
  have hp := T720_pos
  obtain ⟨cell, hc⟩ : ∃ cell : Int, (sIf (tVal (eBin pLt (eVar 1) (eCa pLen (esCons (eVar 0) esNil)))) (sSet 2 (eBin pIx (eVar 0) (eVar 1))) sNil) [some (.s ns), some (.d (.int k)), some (.d (.int (11 * k + 4))), none, none] S = some (.nx [some (.s ns), some (.d (.int k)), some (.d (.int cell)), none, none] S) := by
    by_cases hk : k < ns.length
    · have e : ns[k]? = some ns[k] := List.getElem?_eq_getElem hk
      exact ⟨ns[k], by simp [atI, ixN, hk, e]⟩
    · exact ⟨11 * k + 4, by simp [hk]⟩
  obtain ⟨great, hg⟩ : ∃ great : Int, (sSet 3 (eBin pMod (eCa pAbs (esCons (eVar 2) esNil)) (eBin pPow (eBin pPow (eLit (.int 10)) (eLit (.int 60))) (eLit (.int 12))))) [some (.s ns), some (.d (.int k)), some (.d (.int cell)), none, none] S = some (.nx [some (.s ns), some (.d (.int k)), some (.d (.int cell)), some (.d (.int great)), none] S) :=
    ⟨_, by simp [pow_a, pow_b, hp]; rfl⟩
  obtain ⟨mixed, hm⟩ : ∃ mixed : Int, (sSet 4 (eBin pMod (eBin pPlus (eBin pPlus (eBin pPlus (eBin pTimes (eBin pMod (eVar 3) (eLit (.int 2147483587))) (eLit (.int 69621))) (eBin pTimes (eLit (.int 1009)) (eVar 1))) (eBin pTimes (eLit (.int 3)) (eCa pInt (esCons (eBin pLt (eVar 2) (eLit (.int 0))) esNil)))) (eLit (.int 17))) (eLit (.int 2147483647)))) [some (.s ns), some (.d (.int k)), some (.d (.int cell)), some (.d (.int great)), none] S = some (.nx [some (.s ns), some (.d (.int k)), some (.d (.int cell)), some (.d (.int great)), some (.d (.int mixed))] S) :=
    ⟨_, by simp [k1, k2, k4]; rfl⟩
  obtain ⟨a, ha, he⟩ : ∃ a : Int, 0 ≤ a ∧ (sRetNew (nLst (esCons (eCa pMax (esCons (eLit (.int 0)) (esCons (eBin pSub (eVar 3) (eBin pPow (eLit (.int 10)) (eLit (.int 18)))) esNil))) (esCons (eVar 4) (esCons (eLit (.int 0)) esNil))))) [some (.s ns), some (.d (.int k)), some (.d (.int cell)), some (.d (.int great)), some (.d (.int mixed))] S = some (.rt (.r S.length) (S ++ [.lst [.int a, .int mixed, .int 0]])) := by
    simp [pow_c, sz_le]
    generalize T18 = t
    split <;> omega
  refine ⟨a, mixed, ha, ?_⟩
  have hr : m__law_stream [some (.s ns), some (.d (.int k)), none, none, none] S = some (.rt (.r S.length) (S ++ [.lst [.int a, .int mixed, .int 0]])) := by
    unfold m__law_stream
    rw [seq_nx (σ' := [some (.s ns), some (.d (.int k)), some (.d (.int (11 * k + 4))), none, none]) (S' := S) (by simp [k3]), seq_nx hc, seq_nx hg, seq_nx hm, he]
  simp [f__law_stream, hr]
theorem atI_in {α : Type} {ds : List α} {v : Int} (h : 0 ≤ v) (h2 : v < ds.length) : ∃ d, atI ds v = some d ∧ d ∈ ds := by
  have h3 : v.toNat < ds.length := by omega
  refine ⟨ds[v.toNat], ?_, List.getElem_mem h3⟩
  unfold atI ixN
  simp [h, h2, h3]
theorem Dr.app {A L S' : Sto} {i : Nat} (h : Dr (A ++ L) i S') (hi : i < A.length) : ∃ A', Dr A i A' ∧ S' = A' ++ L := by
  obtain ⟨a, b, c, ha, rfl⟩ := h
  exact ⟨_, ⟨a, b, c, ha, rfl⟩, List.set_append_left _ _ hi⟩
theorem StrAt.app {A L : Sto} {i : Nat} (h : StrAt A i) : StrAt (A ++ L) i := by
  have hl := h.lt
  obtain ⟨a, b, c, ha, e⟩ := h
  exact ⟨a, b, c, ha, by rw [List.getElem?_append_left hl]; exact e⟩
/-- a draw beside a store -/
theorem drawL {A L : Sto} {i : Nat} {n : Int} (h : StrAt A i) (hn : 0 < n) (hn2 : n < 18446744073709551616) :
    ∃ (v : Int) (A' : Sto), 0 ≤ v ∧ v < n ∧ Dr A i A' ∧ f__law_draw [.r i, .d (.int n)] (A ++ L) = some (.ok (.d (.int v)) (A' ++ L)) := by
  obtain ⟨v, S', h1, h2, h3, h4⟩ := draw (h.app (L := L)) hn hn2
  obtain ⟨A', h5, rfl⟩ := h3.app h.lt
  exact ⟨v, A', h1, h2, h5, h4⟩
/-- a word of width w -/
def wordsW (w : Nat) (ns : List Int) : Prop := ∀ n ∈ ns, 0 ≤ n ∧ n < 2 ^ w
theorem row {S : Sto} {i : Nat} {w n : Nat} (h : StrAt S i) (hw : 1 ≤ w) (hw2 : w ≤ 16) (hn : n ≤ 40) :
    ∃ (ns : List Int) (S' : Sto), Dr S i S' ∧ ns.length = n ∧ wordsW w ns ∧ f__law_row [.r i, .d (.int w), .d (.int n)] S = some (.ok (.d (tupI ns)) S') := by
  have ht : (2 : Int) ≤ 2 ^ w := by
    have h1 : (2 : Nat) ^ 1 ≤ 2 ^ w := Nat.pow_le_pow_right (by omega) hw
    have h2 : ((2 ^ w : Nat) : Int) = 2 ^ w := by rw [Int.natCast_pow]; rfl
    omega
  have ht2 : (2 : Int) ^ w ≤ 65536 := by
    have h1 : (2 : Nat) ^ w ≤ 2 ^ 16 := Nat.pow_le_pow_right (by omega) hw2
    have h2 : ((2 ^ w : Nat) : Int) = 2 ^ w := by rw [Int.natCast_pow]; rfl
    omega
  have loop := forGo_inv (g := gVar 5) (body := (sDo (eApp (eVar 3) (eBin pIx (eCa dispL (esCons (eLit (.int 0)) (esCons (eLit (.int 1)) (esCons (eLit (.int 0)) (esCons (eLit (.int 1)) (esCons (eBin pMod (eLit (.int 2)) (eVar 4)) (esCons (eBin pSub (eVar 4) (eLit (.int 1))) (esCons (eBin pDiv (eVar 4) (eLit (.int 2))) (esCons (eCall f__law_draw (esCons (eVar 0) (esCons (eVar 4) esNil))) esNil))))))))) (eCall f__law_draw (esCons (eVar 0) (esCons (eLit (.int 8)) esNil)))))))
    (fun j σ T => ∃ (A : Sto) (ns : List Int) (x : Option SV), Dr S i A ∧ T = A ++ [.lst (ns.map .int)] ∧ ns.length = j ∧ wordsW w ns ∧ σ = [some (.r i), some (.d (.int w)), some (.d (.int n)), some (.r S.length), some (.d (.int (2 ^ w))), x])
    (upTo 0 n) 0 (by
      rintro j d σ T hd ⟨A, ns, x, hA, rfl, hl, hns, rfl⟩
      obtain ⟨hj, rfl⟩ := upTo_get hd
      have hAl := hA.len
      refine ⟨_, rfl, ?_⟩
      obtain ⟨v, A1, v0, v1, dA, e1⟩ := drawL (L := [.lst (ns.map .int)]) (hA.at h.lt) (n := 2 ^ w) (by omega) (by omega)
      obtain ⟨u, A2, u0, u1, dA2, e2⟩ := drawL (L := [.lst (ns.map .int)]) ((hA.trans dA).at h.lt) (n := 8) (by omega) (by omega)
      obtain ⟨y, e3, hy⟩ := atI_in (ds := [PyData.int 0, .int 1, .int 0, .int 1, .int (2 % 2 ^ w), .int (2 ^ w - 1), .int (2 ^ w / 2), .int v]) u0 (by simpa using u1)
      have hp : (0 : Int) < 2 ^ w := by omega
      have hAl2 := ((hA.trans dA).trans dA2).len
      have g1 : ∀ o, (A ++ [o])[S.length]? = some o := fun o => by rw [← hAl]; simp
      have g2 : ∀ o, (A2 ++ [o])[S.length]? = some o := fun o => by rw [← hAl2]; simp
      have g3 : ∀ o o', (A2 ++ [o]).set S.length o' = A2 ++ [o'] := fun o o' => by rw [← hAl2]; simp
      have hz : ns.length < sizeLine := sz_lt (by omega)
      have hy2 : ∃ z : Int, y = .int z ∧ 0 ≤ z ∧ z < 2 ^ w := by
        simp only [List.mem_cons, List.not_mem_nil, or_false] at hy
        have q1 := Int.emod_nonneg 2 (show (2 : Int) ^ w ≠ 0 by omega)
        have q2 := Int.emod_lt_of_pos 2 hp
        rcases hy with rfl | rfl | rfl | rfl | rfl | rfl | rfl | rfl
        · exact ⟨0, rfl, by omega, by omega⟩
        · exact ⟨1, rfl, by omega, by omega⟩
        · exact ⟨0, rfl, by omega, by omega⟩
        · exact ⟨1, rfl, by omega, by omega⟩
        · exact ⟨_, rfl, q1, q2⟩
        · exact ⟨_, rfl, by omega, by omega⟩
        · exact ⟨_, rfl, by omega, by omega⟩
        · exact ⟨_, rfl, by omega, by omega⟩
      obtain ⟨z, rfl, z0, z1⟩ := hy2
      refine ⟨_, _, by simp [g1, g2, g3, e1, e2, e3, hp, sz_le, hz]; exact ⟨rfl, rfl⟩, A2, ns ++ [z], _, (hA.trans dA).trans dA2, by simp, by simp; omega, ?_, rfl⟩
      intro m hm
      rcases List.mem_append.mp hm with hm | hm
      · exact hns m hm
      · cases List.mem_singleton.mp hm
        exact ⟨z0, z1⟩)
  obtain ⟨σ', S', e, A, ns, x, hA, rfl, hl, hns, rfl⟩ := loop [some (.r i), some (.d (.int w)), some (.d (.int n)), some (.r S.length), some (.d (.int (2 ^ w))), none] (S ++ [.lst []]) ⟨S, [], none, Dr.self h, rfl, rfl, (fun m hm => absurd hm (by simp)), rfl⟩
  refine ⟨ns, A, hA, by simpa [upTo_len] using hl, hns, ?_⟩
  have hs : short 1 := by unfold short; omega
  have h62 : small62 (n : Int) := by unfold small62; omega
  have hwl : (w : Int) ≤ 1000000 := by omega
  have hAl := hA.len
  have g1 : ∀ o, (A ++ [o])[S.length]? = some o := fun o => by rw [← hAl]; simp
  have g4 : ∀ o, (A ++ [o]).take S.length = A := fun o => by rw [← hAl]; simp
  have s1 : (sParN 3 4 (nLst esNil) (eBin pShl (eLit (.int 1)) (eVar 1))) [some (.r i), some (.d (.int w)), some (.d (.int n)), none, none, none] S = some (.nx [some (.r i), some (.d (.int w)), some (.d (.int n)), some (.r S.length), some (.d (.int (2 ^ w))), none] (S ++ [.lst []])) := by
    simp [hs, hwl, sz_le]
  have s2 : (sFor (wRng1 (eVar 2)) (gVar 5) (sDo (eApp (eVar 3) (eBin pIx (eCa dispL (esCons (eLit (.int 0)) (esCons (eLit (.int 1)) (esCons (eLit (.int 0)) (esCons (eLit (.int 1)) (esCons (eBin pMod (eLit (.int 2)) (eVar 4)) (esCons (eBin pSub (eVar 4) (eLit (.int 1))) (esCons (eBin pDiv (eVar 4) (eLit (.int 2))) (esCons (eCall f__law_draw (esCons (eVar 0) (esCons (eVar 4) esNil))) esNil))))))))) (eCall f__law_draw (esCons (eVar 0) (esCons (eLit (.int 8)) esNil))))))) [some (.r i), some (.d (.int w)), some (.d (.int n)), some (.r S.length), some (.d (.int (2 ^ w))), none] (S ++ [.lst []]) = some (.nx [some (.r i), some (.d (.int w)), some (.d (.int n)), some (.r S.length), some (.d (.int (2 ^ w))), x] (A ++ [.lst (ns.map .int)])) := by
    rw [show ∀ (b : Sm) σ S, sFor (wRng1 (eVar 2)) (gVar 5) b σ S = Sm.bnd ((wRng1 (eVar 2)) σ S) fun wk S1 => forGo wk.own (gVar 5) b wk.ds σ S1 from fun _ _ _ => rfl]
    rw [show (wRng1 (eVar 2)) [some (.r i), some (.d (.int w)), some (.d (.int n)), some (.r S.length), some (.d (.int (2 ^ w))), none] (S ++ [.lst []]) = some (.ok ⟨upTo 0 n, none⟩ (S ++ [.lst []])) by simp [h62]]
    exact e
  have hr : m__law_row [some (.r i), some (.d (.int w)), some (.d (.int n)), none, none, none] S = some (.rt (.d (tupI ns)) (A ++ [.lst (ns.map .int)])) := by
    unfold m__law_row
    rw [seq_nx s1, seq_nx s2]
    simp [g1, tupI]
  simp [f__law_row, hr, g4]
end T
set_option maxRecDepth 100000
set_option maxHeartbeats 4000000
namespace T
open PySem PySem.Spec PyProof.Rows L2 Z
/-! ## what is a word, a vector, a matrix -/
def isInt : PyData → Bool
  | .int _ => true
  | _ => false
def isWord (w : Nat) : PyData → Bool
  | .int i => decide (0 ≤ i ∧ i < 2 ^ w)
  | _ => false
def isVec (w n : Nat) : PyData → Bool
  | .tuple ds => decide (ds.length = n) && ds.all (isWord w)
  | _ => false
def isMat (w r c : Nat) : PyData → Bool
  | .tuple ds => decide (ds.length = r) && ds.all (isVec w c)
  | _ => false
theorem pow_w {w : Nat} (hw2 : w ≤ 16) : (0 : Int) < 2 ^ w ∧ (2 : Int) ^ w ≤ 65536 := by
  have h1 : (2 : Nat) ^ w ≤ 2 ^ 16 := Nat.pow_le_pow_right (by omega) hw2
  have h2 : ((2 ^ w : Nat) : Int) = 2 ^ w := by rw [Int.natCast_pow]; rfl
  have h3 : 0 < (2 : Nat) ^ w := Nat.pow_pos (by omega)
  omega
theorem p_fits_bounds {S : Sto} {lo hi : Int} (v : PyData) : f_fits_bounds [.d v, .d (.int lo), .d (.int hi)] S = some (.ok (.d (.bool (match v with | .int i => decide (lo ≤ i ∧ i ≤ hi) | _ => false))) S) := by
  cases v <;> simp [f_fits_bounds, m_fits_bounds]
  rename_i i
  by_cases h1 : lo ≤ i
  · by_cases h2 : i ≤ hi <;> simp [h1, h2]
  · simp [h1]
theorem p_fits_word {S : Sto} {w : Nat} (hw2 : w ≤ 16) (v : PyData) : f_fits_word [.d (.int w), .d v] S = some (.ok (.d (.bool (isWord w v))) S) := by
  have hs : short 1 := by unfold short; omega
  have hwl : (w : Int) ≤ 1000000 := by omega
  simp [f_fits_word, m_fits_word, hs, hwl, p_fits_bounds]
  cases v <;> simp [isWord]
  generalize (2 : Int) ^ w = t
  congr 1
  exact decide_eq_decide.mpr (by omega)
theorem boolsD_mapf (f : PyData → Bool) (ds : List PyData) : boolsD (ds.map (PyData.bool ∘ f)) = some (ds.map f) := by
  rw [← List.map_map, boolsD_map]
/-- a comprehension over items that yields truths -/
theorem cmp_bools {g : Tg} {e : Ex} {σ0 : Sg} {S : Sto} (p : PyData → Bool) (ds : List PyData) (hz : ds.length ≤ sizeLine)
    (h : ∀ d ∈ ds, ∃ σ1, g d σ0 = some σ1 ∧ e σ1 S = some (.ok (.d (.bool (p d))) S)) : cmpGo none g tTrue e σ0 ds [] S = some (S, (ds.map p).map .bool) := by
  rw [cmpGo_map (fun d => .bool (p d)) ds [] h (by simpa using hz)]
  simp
/-- a comprehension that picks items -/
theorem cmp_pick {g : Tg} {t : Tst} {e : Ex} {σ0 : Sg} {S : Sto} (p : PyData → Bool) : ∀ (ds acc : List PyData), acc.length + ds.length ≤ sizeLine →
    (∀ d ∈ ds, ∃ σ1, g d σ0 = some σ1 ∧ t σ1 S = some (.ok (p d) S) ∧ e σ1 S = some (.ok (.d d) S)) → cmpGo none g t e σ0 ds acc S = some (S, acc ++ ds.filter p)
  | [], acc, _, _ => by simp [cmpGo, gdOk]
  | d :: ds, acc, hz, h => by
    obtain ⟨σ1, e1, e2, e3⟩ := h d List.mem_cons_self
    have h' := fun d' m => h d' (List.mem_cons_of_mem _ m)
    cases hp : p d with
    | false =>
      have ih := cmp_pick p ds acc (by simp at hz; omega) h'
      rw [hp] at e2
      simp [cmpGo, gdOk, e1, e2, ih, hp]
    | true =>
      have hlt : acc.length < sizeLine := by simp at hz; omega
      have ih := cmp_pick p ds (acc ++ [d]) (by simp at hz ⊢; omega) h'
      rw [hp] at e2
      simp [cmpGo, gdOk, e1, e2, e3, hlt, ih, hp]
theorem all_map_id (p : PyData → Bool) (ds : List PyData) : ((ds.map p).all id) = ds.all p := by
  induction ds with
  | nil => rfl
  | cons d ds ih => simp [ih]
theorem p_fits_words {S : Sto} {w : Nat} {n : Int} (hw2 : w ≤ 16) (v : PyData) (hz : ∀ ds, v = .tuple ds → ds.length ≤ sizeLine) : f_fits_words [.d (.int w), .d (.int n), .d v] S = some (.ok (.d (.bool (match v with | .tuple ds => decide ((ds.length : Int) = n) && ds.all (isWord w) | _ => false))) S) := by
  cases v with
  | tuple ds =>
    have hc := cmp_bools (g := gVar 3) (e := (eCall f_fits_word (esCons (eVar 0) (esCons (eVar 3) esNil)))) (σ0 := [some (.d (.int w)), some (.d (.int n)), some (.d (.tuple ds)), none]) (S := S) (isWord w) ds (hz ds rfl) fun d _ => ⟨_, rfl, by simp [p_fits_word hw2]⟩
    by_cases h : (ds.length : Int) = n
    · have e : ds.all (id ∘ isWord w) = ds.all (isWord w) := rfl
      simp [f_fits_words, m_fits_words, hc, boolsD_mapf, h, okD_int, PyData.eqv, e]
    · simp [f_fits_words, m_fits_words, h, okD_int, PyData.eqv]
  | _ => simp [f_fits_words, m_fits_words]
theorem p_fits_vector {S : Sto} {w n : Nat} (hw2 : w ≤ 16) (v : PyData) (hz : ∀ ds, v = .tuple ds → ds.length ≤ sizeLine) : f_fits_vector [.d (.int w), .d (.int n), .d v] S = some (.ok (.d (.bool (isVec w n v))) S) := by
  simp [f_fits_vector, m_fits_vector, p_fits_words hw2 v hz]
  cases v <;> simp only [isVec]
  congr 1
  exact decide_eq_decide.mpr (by omega)
/-- short lists all the way -/
theorem Sz.zs {b dep sz : Nat} {v : PyData} (h : Sz b dep sz v) (h2 : sz ≤ 16777216) : ∀ ds, v = .tuple ds → ds.length ≤ sizeLine := fun ds e => by
  subst e
  have := h.tupI.1.len
  rw [sizeLine_eq]
  omega
theorem p_fits_vectors {S : Sto} {w n b dep sz : Nat} (hw2 : w ≤ 16) {v : PyData} (h : Sz b dep sz v) (h2 : sz ≤ 16777216) : f_fits_vectors [.d (.int w), .d (.int n), .d v] S = some (.ok (.d (.bool (match v with | .tuple ds => ds.all (isVec w n) | _ => false))) S) := by
  cases v with
  | tuple ds =>
    have hm := h.tupI.1
    have hc := cmp_bools (g := gVar 3) (e := (eCall f_fits_vector (esCons (eVar 0) (esCons (eVar 1) (esCons (eVar 3) esNil))))) (σ0 := [some (.d (.int w)), some (.d (.int n)), some (.d (.tuple ds)), none]) (S := S) (isVec w n) ds (Sz.zs h h2 ds rfl) fun d hd => ⟨_, rfl, by simp [p_fits_vector hw2 d (Sz.zs (hm.mem hd) (by omega))]⟩
    have e : ds.all (id ∘ isVec w n) = ds.all (isVec w n) := rfl
    simp [f_fits_vectors, m_fits_vectors, hc, boolsD_mapf, e]
  | _ => simp [f_fits_vectors, m_fits_vectors]
theorem p_is_width {S : Sto} (v : PyData) : f_is_width [.d v] S = some (.ok (.d (.bool (match v with | .int i => decide (1 ≤ i ∧ i ≤ 16) | _ => false))) S) := by
  simp [f_is_width, m_is_width, p_fits_bounds]
def inSide (v : PyData) : Bool := match v with | .int i => decide (1 ≤ i ∧ i ≤ 5) | _ => false
def inWidth (v : PyData) : Bool := match v with | .int i => decide (1 ≤ i ∧ i ≤ 16) | _ => false
theorem p_need_width {S : Sto} (v : PyData) : f_need_width [.d v] S = some (if inWidth v = true then .ok (.d .none) S else .exc ⟨Str.ofString "InvalidWidth", none⟩ S) := by
  have : f_is_width [.d v] S = some (.ok (.d (.bool (inWidth v))) S) := by rw [p_is_width]; cases v <;> rfl
  simp only [f_need_width, m_need_width]
  generalize inWidth v = b at this ⊢
  cases b <;> simp [this]
theorem p_ok_width {S : Sto} {w : Nat} (hw : 1 ≤ w) (hw2 : w ≤ 16) : f_need_width [.d (.int w)] S = some (.ok (.d .none) S) := by
  rw [p_need_width, if_pos (by simp [inWidth]; omega)]
theorem p_bad_width {S : Sto} {o : PyData} (ho : inWidth o = false) : f_need_width [.d o] S = some (.exc ⟨Str.ofString "InvalidWidth", none⟩ S) := by
  rw [p_need_width, if_neg (by simp [ho])]
/-! ## the text's own judges -/
theorem l_is_int {S : Sto} (v : PyData) : f__law_is_int [.d v] S = some (.ok (.d (.bool (isInt v))) S) := by
  cases v <;> simp [f__law_is_int, m__law_is_int, isInt]
theorem filt_emp (p : PyData → Bool) (ds : List PyData) : PyData.eqv (.list (ds.filter fun d => !p d)) (.list []) = ds.all p := by
  simp only [PyData.eqv]
  rw [eqv_emp]
  induction ds with
  | nil => rfl
  | cons d ds ih =>
    cases h : p d <;> simp [h, ih]
theorem l_is_vector {S : Sto} {w n : Nat} (hw2 : w ≤ 16) (v : PyData) (hz : ∀ ds, v = .tuple ds → ds.length ≤ sizeLine) : f__law_is_vector [.d (.int w), .d (.int n), .d v] S = some (.ok (.d (.bool (isVec w n v))) S) := by
  have hs : short 1 := by unfold short; omega
  have hwl : (w : Int) ≤ 1000000 := by omega
  cases v with
  | tuple ds =>
    by_cases hl : ds.length = n
    · have hl' : (ds.length : Int) = n := by omega
      have hc := cmp_pick (g := gVar 3) (t := (tOr_ (tNt (tVal (eCall f__law_is_int (esCons (eVar 3) esNil)))) (tNt (tVal (eChain pLe pLt (eLit (.int 0)) (eVar 3) (eBin pShl (eLit (.int 1)) (eVar 0))))))) (e := eVar 3) (σ0 := [some (.d (.int w)), some (.d (.int n)), some (.d (.tuple ds)), none]) (S := S) (fun d => !isWord w d) ds [] (by simpa using hz ds rfl) fun d _ => ⟨_, rfl, by
        cases d <;> simp [l_is_int, isInt, isWord]
        rename_i i _
        by_cases h0 : 0 ≤ i
        · by_cases h1 : i < 2 ^ w <;> simp [h0, h1, hs, hwl]
        · simp [h0], rfl⟩
      have e := filt_emp (isWord w) ds
      simp only [List.nil_append] at hc
      simp [f__law_is_vector, m__law_is_vector, hl, okD_int, PyData.eqv, hc, isVec] 
      simpa [PyData.eqv] using e
    · have hl' : ¬ (ds.length : Int) = n := by omega
      simp [f__law_is_vector, m__law_is_vector, hl, hl', okD_int, PyData.eqv, isVec]
  | _ => simp [f__law_is_vector, m__law_is_vector, isVec]
theorem l_is_matrix {S : Sto} {w r c b dep sz : Nat} (hw2 : w ≤ 16) {v : PyData} (h : Sz b dep sz v) (h2 : sz ≤ 16777216) : f__law_is_matrix [.d (.int w), .d (.int r), .d (.int c), .d v] S = some (.ok (.d (.bool (isMat w r c v))) S) := by
  cases v with
  | tuple ds =>
    have hm := h.tupI.1
    by_cases hl : ds.length = r
    · have hc := cmp_pick (g := gVar 4) (t := (tNt (tVal (eCall f__law_is_vector (esCons (eVar 0) (esCons (eVar 2) (esCons (eVar 4) esNil))))))) (e := eVar 4) (σ0 := [some (.d (.int w)), some (.d (.int r)), some (.d (.int c)), some (.d (.tuple ds)), none]) (S := S) (fun d => !isVec w c d) ds [] (by simpa using Sz.zs h h2 ds rfl) fun d hd => ⟨_, rfl, by
        simp [l_is_vector hw2 d (Sz.zs (hm.mem hd) (by omega))], rfl⟩
      have e := filt_emp (isVec w c) ds
      simp only [List.nil_append] at hc
      simp [f__law_is_matrix, m__law_is_matrix, hl, okD_int, PyData.eqv, hc, isMat]
      simpa [PyData.eqv] using e
    · have hl' : ¬ (ds.length : Int) = r := by omega
      simp [f__law_is_matrix, m__law_is_matrix, hl, hl', okD_int, PyData.eqv, isMat]
  | _ => simp [f__law_is_matrix, m__law_is_matrix, isMat]
end T
set_option maxRecDepth 100000
set_option maxHeartbeats 4000000
namespace T
open PySem PySem.Spec PyProof.Rows L2 Z
/-! ## drawn data -/
def T39 : Int := 10 ^ 39
def T30 : Int := 10 ^ 30
theorem pow_39 (S : Sto) : pPow (.d (.int 10)) (.d (.int 39)) S = some (.d (.int T39)) := pow_g S (by decide +kernel)
theorem pow_30 (S : Sto) : pPow (.d (.int 10)) (.d (.int 30)) S = some (.d (.int T30)) := pow_g S (by decide +kernel)
def odds : List PyData := [.none, .bool true, .bool false, .int (-1), .int 0, .int 1, .int 7, .int 65536, .int T39, .str (Str.ofString ""), .str (Str.ofString "a"), .str (Str.ofString "main"), .str (Str.ofString "set"), .tuple [], .list [], .dict [], .tuple [.int 0], .list [.int 0], .tuple [.str (Str.ofString "x")], .tuple [.tuple [.int 0]], .tuple [.none], .tuple [.bool true]]
theorem odds_sz : ∀ d ∈ odds, Sz 130 2 140 d := fun d h => Sz.of (List.all_eq_true.mp (show odds.all (smD 130 2 140) = true by decide +kernel) d h)
theorem odd_ {S : Sto} {i : Nat} (h : StrAt S i) : ∃ (d : PyData) (S' : Sto), Dr S i S' ∧ Sz 130 2 140 d ∧ f__law_odd [.r i] S = some (.ok (.d d) S') := by
  obtain ⟨v, S1, v0, v1, d1, e1⟩ := draw h (n := 22) (by omega) (by omega)
  obtain ⟨y, e2, hy⟩ := atI_in (ds := odds) v0 (by simpa [odds] using v1)
  have hl := d1.len
  refine ⟨y, S1, d1, odds_sz y hy, ?_⟩
  simp only [odds] at e2
  simp [f__law_odd, m__law_odd, pow_39, e1, e2, ← hl]
/-- a text that grows -/
theorem asc_app {x y : Str} (h : asc x = true) (h2 : asc y = true) : asc (x ++ y) = true := by
  have e : (x ++ y).cps.toList = x.cps.toList ++ y.cps.toList := by
    show (x.cps ++ y.cps).toList = _
    simp
  simp only [asc, e, List.all_append, h, h2, Bool.and_true] at *
  simp [h, h2]
theorem asc_cut {x : Str} (h : asc x = true) (lo hi : Option Int) : asc (cutS x lo hi) = true := by
  simp only [asc, List.all_eq_true] at h ⊢
  intro c hc
  have hc2 : c ∈ (x.cps.toList.drop (HT.sIx x.length 0 lo)).take (HT.sIx x.length x.length hi - HT.sIx x.length 0 lo) := by simpa [cutS] using hc
  exact h c (List.mem_of_mem_drop (List.mem_of_mem_take hc2))
theorem asc_upper {x : Str} (h : asc x = true) : asc (Txt.upper x) = true ∧ (Txt.upper x).length = x.length := by
  have h' : ∀ c ∈ x.cps.toList, c < 128 := fun c hc => by simpa using List.all_eq_true.mp h c hc
  rw [PyProof.Rows.upper_ascii h']
  constructor
  · simp only [asc, List.all_eq_true, Array.toList_map, List.mem_map, decide_eq_true_eq]
    rintro c ⟨d, hd, rfl⟩
    have := h' d hd
    unfold PyProof.Rows.up1
    split <;> omega
  · show (x.cps.map _).size = x.cps.size
    simp
/-- the digits of an int -/
theorem asc_int (i : Int) : asc (Str.ofString (toString i)) = true := by
  rw [asc, Str.ofString_eq_toList]
  simp only [List.all_eq_true]
  intro c hc
  simp only [List.mem_map] at hc
  obtain ⟨ch, hch, rfl⟩ := hc
  rw [decide_eq_true_eq]
  have hd : ∀ n : Nat, ∀ c ∈ (n.repr).toList, c.toNat < 128 := fun n c hc => by
    have := Nat.isDigit_of_mem_toDigits (b := 10) (n := n) (by decide) (by decide) (by simpa [Nat.repr] using hc)
    simp [Char.isDigit] at this
    have h2 := this.2
    have : c.toNat ≤ 57 := h2
    omega
  cases i with
  | ofNat m => exact hd m ch hch
  | negSucc m =>
    have hch : ch ∈ ("-" ++ (m + 1).repr).toList := hch
    rw [String.toList_append] at hch
    rcases List.mem_append.mp hch with q | q
    · have : ch = '-' := by simpa using q
      rw [this]; decide
    · exact hd _ ch q
end T
set_option maxRecDepth 100000
set_option maxHeartbeats 4000000
namespace T
open PySem PySem.Spec PyProof.Rows L2 Z
theorem cut_len (ds : List PyData) (lo hi : Option Int) : (Z.cutD ds lo hi).length ≤ ds.length := by
  unfold Z.cutD
  rw [List.length_take, List.length_drop]
  omega
theorem Szs.sz {b dep sz : Nat} {ds : List PyData} (h : Szs b dep sz ds) (h2 : sz ≤ 10000000 := by omega) : ds.length ≤ sizeLine := by
  have := h.len
  rw [sizeLine_eq]
  omega
/-- a bend within -/
theorem bent_in {S : Sto} {i b dep sz k n D zz : Nat} {ds : List PyData} (h : StrAt S i) (hz : Szs b dep sz ds) (hsz : sz ≤ 1000000) (hD : dep ≤ D) (hZ : zz ≤ 8000000) (hd : 0 < ds.length) {S0 : Sto} {u : Int} (d0 : Dr S i S0) (u1 : 0 < u)
    (e0 : f__law_draw [.r i, .d (.int 5)] S = some (.ok (.d (.int u)) S0))
    (ih : ∀ (S : Sto) (v : PyData), StrAt S i → Sz b dep sz v → ∃ (d : PyData) (S' : Sto), Dr S i S' ∧ Sz (b + 1) D zz d ∧ f__law_bent n [.r i, .d v, .d (.int k)] S = some (.ok (.d d) S')) :
    ∃ (d : PyData) (S' : Sto), Dr S i S' ∧ Sz (b + 1) (D + 1) (2 * sz + zz + 10) d ∧ f__law_bent (n + 1) [.r i, .d (.tuple ds), .d (.int (k + 1))] S = some (.ok (.d d) S') := by
  have hlen := hz.len
  obtain ⟨at_, S1, a0, a1, d1, e1⟩ := draw (d0.at h.lt) (n := ds.length) (by omega) (by omega)
  obtain ⟨y, e2, hy⟩ := atI_in (ds := ds) a0 a1
  obtain ⟨d, S2, d2, hd2, e3⟩ := ih S1 y (d1.at (d0.at h.lt).lt) (hz.mem hy)
  have hl := ((d0.trans d1).trans d2).len
  have c1 := (hz.cut none (some at_)).mono (b' := b + 1) (dep' := D) (by omega) (by omega) (Nat.le_refl _)
  have c2 := (hz.cut (some (at_ + 1)) none).mono (b' := b + 1) (dep' := D) (by omega) (by omega) (Nat.le_refl _)
  have key := ((c1.app (Szs.cons hd2 Szs.nil (sz2 := 0))).app c2).tup
  have z1 : (Z.cutD ds none (some at_)).length + 1 ≤ sizeLine := by have := c1.len; rw [sizeLine_eq]; omega
  have z2 : (Z.cutD ds none (some at_)).length + (1 + (Z.cutD ds (some (at_ + 1)) none).length) ≤ sizeLine := by have := c1.len; have := c2.len; rw [sizeLine_eq]; omega
  have z3 : (Z.cutD ds none (some at_)).length + 1 + (Z.cutD ds (some (at_ + 1)) none).length ≤ sizeLine := by omega
  refine ⟨.tuple (Z.cutD ds none (some at_) ++ [d] ++ Z.cutD ds (some (at_ + 1)) none), S2, (d0.trans d1).trans d2, key.mono (Nat.le_refl _) (by omega) (by omega), ?_⟩
  have ne : ds ≠ [] := by intro e; subst e; simp at hd
  have em : PyData.eqv (.tuple ds) (.tuple []) = false := by
    cases ds with
    | nil => exact absurd rfl ne
    | cons x xs => simp [PyData.eqv, PyData.eqvAll]
  have hk1 : (0 : Int) < k + 1 := by omega
  have hk2 : (k : Int) + 1 - 1 = k := by omega
  simp [f__law_bent, m__law_bent, em, hk1, hk2, e0, u1, e1, e2, e3, z1, z2, z3, ← hl, List.append_assoc]
end T
set_option maxRecDepth 100000
set_option maxHeartbeats 4000000
namespace T
open PySem PySem.Spec PyProof.Rows L2 Z
theorem forall_cons {α : Type} {p : α → Prop} {a : α} {l : List α} (h : p a) (r : ∀ x ∈ l, p x) : ∀ x ∈ a :: l, p x := List.forall_mem_cons.mpr ⟨h, r⟩
theorem forall_nil {α : Type} {p : α → Prop} : ∀ x ∈ ([] : List α), p x := fun _ h => nomatch h
/-- a tuple that is bent as a whole -/
theorem bent_out {S : Sto} {i b dep sz k n : Nat} {ds : List PyData} (h : StrAt S i) (hz : Szs b dep sz ds) (hsz : sz ≤ 1000000) {S0 : Sto} (d0 : Dr S i S0)
    (H : (ds = [] ∧ S0 = S) ∨ (k = 0 ∧ S0 = S) ∨ (ds ≠ [] ∧ 0 < k ∧ f__law_draw [.r i, .d (.int 5)] S = some (.ok (.d (.int 0)) S0))) :
    ∃ (d : PyData) (S' : Sto), Dr S i S' ∧ Sz (b + 1) (dep + 2) (3 * sz + 20) d ∧ f__law_bent (n + 1) [.r i, .d (.tuple ds), .d (.int k)] S = some (.ok (.d d) S') := by
  have hlen := hz.len
  obtain ⟨at_, S1, a0, a1, d1, e1⟩ := draw (d0.at h.lt) (n := ds.length + 1) (by omega) (by omega)
  obtain ⟨u, S2, u0, u1, d2, e2⟩ := draw ((d0.trans d1).at h.lt) (n := 8) (by omega) (by omega)
  have hl := ((d0.trans d1).trans d2).len
  have hz' := hz.mono (b' := b + 1) (dep' := dep) (by omega) (Nat.le_refl _) (Nat.le_refl _)
  have c1 := hz'.cut none (some at_)
  have c2 := hz'.cut (some (at_ + 1)) none
  have c3 := hz'.cut (some at_) none
  have c4 := hz'.cut (some (-1)) none
  have c5 := hz'.cut none (some 1)
  have n0 : Szs (b + 1) dep 5 [PyData.int 0] := Szs.cons ((Sz.of (d := .int 0) (b := 1) (dep := 0) (sz := 3) (by decide +kernel)).mono (by omega) (by omega) (Nat.le_refl _)) Szs.nil (sz2 := 0)
  obtain ⟨y, e3, hy⟩ := atI_in (ds := [PyData.list ds, .tuple (Z.cutD ds none (some at_) ++ Z.cutD ds (some (at_ + 1)) none), .tuple (Z.cutD ds none (some at_) ++ [.int 0] ++ Z.cutD ds (some at_) none), .tuple ds.reverse,
    .tuple (ds ++ Z.cutD ds (some (-1)) none), .tuple [.tuple ds], .tuple [], .tuple (Z.cutD ds none (some at_) ++ Z.cutD ds none (some 1) ++ Z.cutD ds (some at_) none)]) u0 (by simpa using u1)
  have hq : ∀ d ∈ [PyData.list ds, .tuple (Z.cutD ds none (some at_) ++ Z.cutD ds (some (at_ + 1)) none), .tuple (Z.cutD ds none (some at_) ++ [.int 0] ++ Z.cutD ds (some at_) none), .tuple ds.reverse,
    .tuple (ds ++ Z.cutD ds (some (-1)) none), .tuple [.tuple ds], .tuple [], .tuple (Z.cutD ds none (some at_) ++ Z.cutD ds none (some 1) ++ Z.cutD ds (some at_) none)], Sz (b + 1) (dep + 2) (3 * sz + 20) d :=
    forall_cons (hz'.lst.mono (Nat.le_refl _) (by omega) (by omega)) <| forall_cons ((c1.app c2).tup.mono (Nat.le_refl _) (by omega) (by omega)) <| forall_cons (((c1.app n0).app c3).tup.mono (Nat.le_refl _) (by omega) (by omega)) <|
    forall_cons (hz'.rev.tup.mono (Nat.le_refl _) (by omega) (by omega)) <| forall_cons ((hz'.app c4).tup.mono (Nat.le_refl _) (by omega) (by omega)) <| forall_cons ((Szs.cons hz'.tup Szs.nil (sz2 := 0)).tup.mono (Nat.le_refl _) (by omega) (by omega)) <|
    forall_cons (Szs.nil.tup (sz := 0) (dep := 0) (b := b + 1) |>.mono (Nat.le_refl _) (by omega) (by omega)) <| forall_cons (((c1.app c5).app c3).tup.mono (Nat.le_refl _) (by omega) (by omega)) forall_nil
  refine ⟨y, S2, (d0.trans d1).trans d2, hq y hy, ?_⟩
  have z0 := hz.len
  have y1 := c1.len
  have y2 := c2.len
  have y3 := c3.len
  have y4 := c4.len
  have y5 := c5.len
  have z1 : (Z.cutD ds none (some at_)).length + (Z.cutD ds (some (at_ + 1)) none).length ≤ sizeLine := by rw [sizeLine_eq]; omega
  have z2 : (Z.cutD ds none (some at_)).length + 1 ≤ sizeLine := by rw [sizeLine_eq]; omega
  have z3 : (Z.cutD ds none (some at_)).length + (1 + (Z.cutD ds (some at_) none).length) ≤ sizeLine := by rw [sizeLine_eq]; omega
  have z4 : ds.length + (Z.cutD ds (some (-1)) none).length ≤ sizeLine := by rw [sizeLine_eq]; omega
  have z5 : (Z.cutD ds none (some at_)).length + (Z.cutD ds none (some 1)).length ≤ sizeLine := by rw [sizeLine_eq]; omega
  have z6 : (Z.cutD ds none (some at_)).length + ((Z.cutD ds none (some 1)).length + (Z.cutD ds (some at_) none).length) ≤ sizeLine := by rw [sizeLine_eq]; omega
  have z7 : (Z.cutD ds none (some at_)).length + (Z.cutD ds none (some 1)).length + (Z.cutD ds (some at_) none).length ≤ sizeLine := by rw [sizeLine_eq]; omega
  have z8 : (Z.cutD ds none (some at_)).length + 1 + (Z.cutD ds (some at_) none).length ≤ sizeLine := by rw [sizeLine_eq]; omega
  have hm : m__law_bent (f__law_bent n) [some (.r i), some (.d (.tuple ds)), some (.d (.int k)), none, none] S = some (.rt (.d y) S2) := by
    unfold m__law_bent
    rw [seq_nx (σ' := [some (.r i), some (.d (.tuple ds)), some (.d (.int k)), none, none]) (S' := S0) (by
      rcases H with ⟨rfl, rfl⟩ | ⟨rfl, rfl⟩ | ⟨hne, hk, e0⟩
      · simp [PyData.eqv, PyData.eqvAll]
      · by_cases hd : ds = []
        · subst hd; simp [PyData.eqv, PyData.eqvAll]
        · have em : PyData.eqv (.tuple ds) (.tuple []) = false := by
            cases ds with
            | nil => exact absurd rfl hd
            | cons x xs => simp [PyData.eqv, PyData.eqvAll]
          simp [em]
      · have em : PyData.eqv (.tuple ds) (.tuple []) = false := by
          cases ds with
          | nil => exact absurd rfl hne
          | cons x xs => simp [PyData.eqv, PyData.eqvAll]
        simp [em, hk, e0])]
    simp only [List.append_assoc, List.cons_append, List.nil_append] at e3
    simp [e1, e2, e3, z1, z2, z3, z4, z5, z6, z7, z8]
  simp [f__law_bent, hm, ← hl]
end T
set_option maxRecDepth 100000
set_option maxHeartbeats 4000000
namespace T
open PySem PySem.Spec PyProof.Rows L2 Z
theorem szc {b dep sz b' dep' sz' : Nat} {d : PyData} (h : smD b' dep' sz' d = true) (h1 : b' ≤ b := by omega) (h2 : dep' ≤ dep := by omega) (h3 : sz' ≤ sz := by omega) : Sz b dep sz d := (Sz.of h).mono h1 h2 h3
theorem sz_int1 {b dep sz : Nat} {v c : Int} (h : Sz b dep sz (.int v)) (hc : c.natAbs < 2 ^ b) : Sz (b + 1) dep (sz + b + 4) (.int (v + c)) := by
  have h1 := h.b
  simp only [okS, decide_eq_true_eq] at h1
  have := log_add (n := b) h1 hc
  exact (Sz.int (dep := dep) this).mono (Nat.le_refl _) (Nat.le_refl _) (by omega)
/-- an int that is bent -/
theorem bent_int {S : Sto} {i b dep sz k n : Nat} {v : Int} (h : StrAt S i) (hz : Sz b dep sz (.int v)) (hb : 130 ≤ b) (hb2 : b ≤ 1900) (hsz : sz ≤ 1000000) :
    ∃ (d : PyData) (S' : Sto), Dr S i S' ∧ Sz (b + 1) (dep + 1) (sz + 30 * b) d ∧ f__law_bent (n + 1) [.r i, .d (.int v), .d (.int k)] S = some (.ok (.d d) S') := by
  obtain ⟨u, S1, u0, u1, d1, e1⟩ := draw h (n := 7) (by omega) (by omega)
  have hl := d1.len
  have h1 := hz.b
  simp only [okS, decide_eq_true_eq] at h1
  have hlog : v.natAbs.log2 < 1920 := by omega
  obtain ⟨y, e3, hy⟩ := atI_in (ds := [PyData.int (v + 1), .int (v - 1), .int (0 - v), .str (Str.ofString (toString v)), .bool (PyData.eqv (.int v) (.int 1)), .int 65536, .tuple [.int v]]) u0 (by simpa using u1)
  have p1 : (1 : Int).natAbs < 2 ^ b := Nat.one_lt_two_pow (by omega)
  have q1 := sz_int1 hz (c := 1) p1
  have q2 := sz_int1 hz (c := -1) (by simpa using p1)
  have q3 : Sz (b + 1) (dep + 1) (b + 3) (.int (0 - v)) := by
    rw [Int.zero_sub]
    exact (Sz.int (dep := dep) (log_neg h1)).mono (by omega) (by omega) (by omega)
  have q4 := Sz.str (b := b + 1) (dep := dep + 1) (asc_int v)
  have q4l : (Str.ofString (toString v)).length ≤ b + 3 := Nat.le_trans (int_str_len v) (by omega)
  have q5 := (Szs.cons hz Szs.nil (sz2 := 0)).tup
  have hq : ∀ d ∈ [PyData.int (v + 1), .int (v - 1), .int (0 - v), .str (Str.ofString (toString v)), .bool (PyData.eqv (.int v) (.int 1)), .int 65536, .tuple [.int v]], Sz (b + 1) (dep + 1) (sz + 30 * b) d :=
    forall_cons (q1.mono (Nat.le_refl _) (by omega) (by omega)) <| forall_cons (by
      rw [show v - 1 = v + -1 by omega]
      exact q2.mono (Nat.le_refl _) (by omega) (by omega)) <| forall_cons (q3.mono (Nat.le_refl _) (by omega) (by omega)) <|
    forall_cons (q4.mono (Nat.le_refl _) (by omega) (by omega)) <| forall_cons (Sz.bool.mono (b := b + 1) (dep := dep + 1) (Nat.le_refl _) (by omega) (by omega)) <| forall_cons (szc (b' := 20) (dep' := 0) (sz' := 20) (by decide +kernel)) <| forall_cons (q5.mono (by omega) (by omega) (by omega)) forall_nil
  refine ⟨y, S1, d1, hq y hy, ?_⟩
  have hi := l_is_int (S := S) (.int v)
  have ho : okQ (.int v) (.int 1) := okQ_of (okD_int _) (okD_int _)
  simp [f__law_bent, m__law_bent, hi, isInt, hlog, ho, e1] 
  simp only [Int.zero_sub] at e3
  rw [show toString v = v.repr from rfl] at e3
  simp [e3, ← hl]
/-- a text that is bent -/
theorem bent_str {S : Sto} {i b dep sz k n : Nat} {v : Str} (h : StrAt S i) (hz : Sz b dep sz (.str v)) (hb : 130 ≤ b) (hsz : sz ≤ 1000000) :
    ∃ (d : PyData) (S' : Sto), Dr S i S' ∧ Sz (b + 1) (dep + 1) (sz + 100) d ∧ f__law_bent (n + 1) [.r i, .d (.str v), .d (.int k)] S = some (.ok (.d d) S') := by
  obtain ⟨u, S1, u0, u1, d1, e1⟩ := draw h (n := 8) (by omega) (by omega)
  have hl := d1.len
  have h1 := hz.b
  have h3 := hz.z
  simp only [okS] at h1
  simp only [ms] at h3
  have hup := asc_upper h1
  obtain ⟨y, e3, hy⟩ := atI_in (ds := [PyData.str (v ++ Str.ofString "a"), .str (cutS v (some 1) none), .str (Txt.upper v), .str (Str.ofString "main"), .str (Str.ofString "set"), .str (Str.ofString "input"), .tuple [.str v], .none]) u0 (by simpa using u1)
  have q1 := Sz.str (b := b + 1) (dep := dep + 1) (asc_app h1 (y := Str.ofString "a") (by decide +kernel))
  have q1l : (v ++ Str.ofString "a").length = v.length + 1 := by
    rw [strLen_append]; rfl
  have q2 := Sz.str (b := b + 1) (dep := dep + 1) (asc_cut h1 (some 1) none)
  have q2l := cutS_length v (some 1) none
  have q3 := Sz.str (b := b + 1) (dep := dep + 1) hup.1
  have q5 := (Szs.cons hz Szs.nil (sz2 := 0)).tup
  have hq : ∀ d ∈ [PyData.str (v ++ Str.ofString "a"), .str (cutS v (some 1) none), .str (Txt.upper v), .str (Str.ofString "main"), .str (Str.ofString "set"), .str (Str.ofString "input"), .tuple [.str v], .none], Sz (b + 1) (dep + 1) (sz + 100) d :=
    forall_cons (q1.mono (Nat.le_refl _) (Nat.le_refl _) (by omega)) <| forall_cons (q2.mono (Nat.le_refl _) (Nat.le_refl _) (by omega)) <| forall_cons (q3.mono (Nat.le_refl _) (Nat.le_refl _) (by omega)) <|
    forall_cons (szc (b' := 1) (dep' := 0) (sz' := 80) (by decide +kernel)) <| forall_cons (szc (b' := 1) (dep' := 0) (sz' := 80) (by decide +kernel)) <| forall_cons (szc (b' := 1) (dep' := 0) (sz' := 80) (by decide +kernel)) <| forall_cons (q5.mono (by omega) (by omega) (by omega)) <| forall_cons (Sz.none.mono (Nat.le_refl _) (Nat.zero_le _) (by omega)) forall_nil
  refine ⟨y, S1, d1, hq y hy, ?_⟩
  have hi := l_is_int (S := S) (.str v)
  have z1 : v.length + 1 ≤ sizeLine := by rw [sizeLine_eq]; omega
  have z2 : v.length ≤ sizeLine := by omega
  have z3 : v.length ≤ 5592405 := by omega
  have z4 : (Str.ofString "a").length = 1 := rfl
  simp [f__law_bent, m__law_bent, hi, isInt, z1, z2, z3, z4, e1, e3, ← hl]
/-- any value that is bent -/
theorem bent {i b : Nat} (hb : 130 ≤ b) (hb2 : b ≤ 1900) : ∀ (k n dep sz : Nat) (S : Sto) (v : PyData), k ≤ 2 → k < n → sz ≤ 1000000 → StrAt S i → Sz b dep sz v →
    ∃ (d : PyData) (S' : Sto), Dr S i S' ∧ Sz (b + 1) (dep + k + 3) ((2 * k + 3) * sz + 200 + 30 * b + 10 * k) d ∧ f__law_bent n [.r i, .d v, .d (.int k)] S = some (.ok (.d d) S')
  | k, 0, dep, sz, S, v, hk, hn, hsz, h, hz => absurd hn (Nat.not_lt_zero _)
  | k, n + 1, dep, sz, S, v, hk, hn, hsz, h, hz => by
    have hm : sz ≤ (2 * k + 3) * sz ∧ 3 * sz ≤ (2 * k + 3) * sz := ⟨Nat.le_mul_of_pos_left _ (by omega), Nat.mul_le_mul (by omega) (Nat.le_refl _)⟩
    cases v with
    | tuple ds =>
      have hz1 := hz.tupI
      by_cases hd : ds = []
      · obtain ⟨d, S', q1, q2, q3⟩ := bent_out (n := n) (k := k) h hz1.1 (by omega) (Dr.self h) (.inl ⟨hd, rfl⟩)
        exact ⟨d, S', q1, q2.mono (Nat.le_refl _) (by omega) (by omega), q3⟩
      · cases k with
        | zero =>
          obtain ⟨d, S', q1, q2, q3⟩ := bent_out (n := n) (k := 0) h hz1.1 (by omega) (Dr.self h) (.inr (.inl ⟨rfl, rfl⟩))
          exact ⟨d, S', q1, q2.mono (Nat.le_refl _) (by omega) (by omega), q3⟩
        | succ k =>
          obtain ⟨u, S0, u0, u1, d0, e0⟩ := draw h (n := 5) (by omega) (by omega)
          by_cases hu : 0 < u
          · have m1 : (2 * k + 3) * (sz - 3) ≤ (2 * k + 3) * sz := Nat.mul_le_mul (Nat.le_refl _) (by omega)
            have m2 : (2 * (k + 1) + 3) * sz = (2 * k + 3) * sz + 2 * sz := by rw [← Nat.add_mul]; congr 1
            have m3 : (2 * k + 3) * sz ≤ 5 * 1000000 := Nat.mul_le_mul (by omega) hsz
            obtain ⟨d, S', q1, q2, q3⟩ := bent_in (n := n) (k := k) h hz1.1 (by omega) (D := dep - 1 + k + 3) (zz := (2 * k + 3) * (sz - 3) + 200 + 30 * b + 10 * k) (by omega) (by omega) (List.length_pos_iff.mpr hd) d0 hu e0 (fun S2 v2 h2 hz2 => bent hb hb2 k n _ _ S2 v2 (by omega) (by omega) (by omega) h2 hz2)
            exact ⟨d, S', q1, q2.mono (Nat.le_refl _) (by omega) (by omega), q3⟩
          · have hu0 : u = 0 := by omega
            subst hu0
            obtain ⟨d, S', q1, q2, q3⟩ := bent_out (n := n) (k := k + 1) h hz1.1 (by omega) d0 (.inr (.inr ⟨hd, by omega, e0⟩))
            exact ⟨d, S', q1, q2.mono (Nat.le_refl _) (by omega) (by omega), q3⟩
    | int v =>
      obtain ⟨d, S', q1, q2, q3⟩ := bent_int (n := n) (k := k) h hz hb hb2 hsz
      exact ⟨d, S', q1, q2.mono (Nat.le_refl _) (by omega) (by omega), q3⟩
    | str v =>
      obtain ⟨d, S', q1, q2, q3⟩ := bent_str (n := n) (k := k) h hz hb hsz
      exact ⟨d, S', q1, q2.mono (Nat.le_refl _) (by omega) (by omega), q3⟩
    | none =>
      obtain ⟨d, S', q1, q2, q3⟩ := odd_ h
      have hl := q1.len
      exact ⟨d, S', q1, q2.mono (by omega) (by omega) (by omega), by simp [f__law_bent, m__law_bent, l_is_int, isInt, q3, ← hl]⟩
    | bool c =>
      obtain ⟨d, S', q1, q2, q3⟩ := odd_ h
      have hl := q1.len
      exact ⟨d, S', q1, q2.mono (by omega) (by omega) (by omega), by simp [f__law_bent, m__law_bent, l_is_int, isInt, q3, ← hl]⟩
    | list ds =>
      obtain ⟨d, S', q1, q2, q3⟩ := odd_ h
      have hl := q1.len
      exact ⟨d, S', q1, q2.mono (by omega) (by omega) (by omega), by simp [f__law_bent, m__law_bent, l_is_int, isInt, q3, ← hl]⟩
    | dict ds =>
      obtain ⟨d, S', q1, q2, q3⟩ := odd_ h
      have hl := q1.len
      exact ⟨d, S', q1, q2.mono (by omega) (by omega) (by omega), by simp [f__law_bent, m__law_bent, l_is_int, isInt, q3, ← hl]⟩
end T
/-! sums of numbers, for matrices over Z/2^w -/
namespace MM
def sN (f : Nat → Int) : Nat → Int
  | 0 => 0
  | n + 1 => sN f n + f n
theorem sN_congr {f g : Nat → Int} : ∀ {n : Nat}, (∀ k, k < n → f k = g k) → sN f n = sN g n
  | 0, _ => rfl
  | n + 1, h => by rw [sN, sN, sN_congr fun k hk => h k (by omega), h n (by omega)]
theorem sN_add (f g : Nat → Int) : ∀ n, sN (fun k => f k + g k) n = sN f n + sN g n
  | 0 => rfl
  | n + 1 => by rw [sN, sN, sN, sN_add f g n]; omega
theorem sN_mul (c : Int) (f : Nat → Int) : ∀ n, sN (fun k => c * f k) n = c * sN f n
  | 0 => by simp [sN]
  | n + 1 => by rw [sN, sN, sN_mul c f n, Int.mul_add]
theorem sN_mulr (c : Int) (f : Nat → Int) (n : Nat) : sN (fun k => f k * c) n = sN f n * c := by
  rw [Int.mul_comm, ← sN_mul]
  exact sN_congr fun k _ => Int.mul_comm _ _
theorem sN_zero : ∀ n, sN (fun _ => 0) n = 0
  | 0 => rfl
  | n + 1 => by rw [sN, sN_zero n]; rfl
theorem sN_swap (f : Nat → Nat → Int) (m : Nat) : ∀ n, sN (fun j => sN (fun k => f j k) m) n = sN (fun k => sN (fun j => f j k) n) m
  | 0 => by simp only [sN]; exact (sN_zero m).symm
  | n + 1 => by
    simp only [sN]
    rw [sN_swap f m n, ← sN_add]
theorem sN_mod (M : Int) (f g : Nat → Int) : ∀ n, (∀ k, k < n → f k % M = g k % M) → sN f n % M = sN g n % M
  | 0, _ => rfl
  | n + 1, h => by
    rw [sN, sN, Int.add_emod, sN_mod M f g n (fun k hk => h k (by omega)), h n (by omega), ← Int.add_emod]
theorem mod_l (M a b : Int) : (a % M) * b % M = a * b % M := by rw [Int.mul_emod, Int.emod_emod_of_dvd _ (Int.dvd_refl M), ← Int.mul_emod]
theorem mod_r (M a b : Int) : a * (b % M) % M = a * b % M := by rw [Int.mul_comm, mod_l, Int.mul_comm]
/-- (a B) c = a (B c) -/
theorem assoc (M : Int) (a : Nat → Int) (b : Nat → Nat → Int) (c : Nat → Int) (m n : Nat) :
    sN (fun j => (sN (fun k => a k * b k j) m % M) * c j) n % M = sN (fun k => a k * (sN (fun j => b k j * c j) n % M)) m % M := by
  rw [sN_mod M _ (fun j => sN (fun k => a k * b k j) m * c j) n (fun j _ => mod_l M _ _), sN_mod M (fun k => a k * (sN (fun j => b k j * c j) n % M)) (fun k => a k * sN (fun j => b k j * c j) n) m (fun k _ => mod_r M _ _)]
  congr 1
  rw [sN_congr (g := fun j => sN (fun k => a k * b k j * c j) m) (fun j _ => (sN_mulr _ _ _).symm), sN_swap (fun j k => a k * b k j * c j) m n]
  exact sN_congr fun k _ => by
    rw [← sN_mul]
    exact sN_congr fun j _ => Int.mul_assoc _ _ _
end MM
set_option maxRecDepth 100000
set_option maxHeartbeats 4000000
namespace T
open PySem PySem.Spec PyProof.Rows L2 Z
/-- a comprehension over pairs of numbers -/
theorem cmp_zip {g : Tg} {e : Ex} {σ0 : Sg} {S : Sto} (f : Int → Int → Int) : ∀ (ns ms : List Int) (acc : List PyData), acc.length + ns.length ≤ sizeLine →
    (∀ n ∈ ns, ∀ m ∈ ms, ∃ σ1, g (.tuple [.int n, .int m]) σ0 = some σ1 ∧ e σ1 S = some (.ok (.d (.int (f n m))) S)) → cmpGo none g tTrue e σ0 (zipD (ns.map .int) (ms.map .int)) acc S = some (S, acc ++ (List.zipWith f ns ms).map .int)
  | [], ms, acc, _, _ => by simp [zipD, cmpGo, gdOk]
  | n :: ns, [], acc, _, _ => by simp [zipD, cmpGo, gdOk]
  | n :: ns, m :: ms, acc, hz, h => by
    obtain ⟨σ1, e1, e2⟩ := h n List.mem_cons_self m List.mem_cons_self
    have ih := cmp_zip f ns ms (acc ++ [.int (f n m)]) (by simp at hz ⊢; omega) fun n' a m' b => h n' (List.mem_cons_of_mem _ a) m' (List.mem_cons_of_mem _ b)
    have hlt : acc.length < sizeLine := by simp at hz; omega
    simp [zipD, cmpGo, gdOk, e1, e2, hlt, ih]
theorem intsD_map (ns : List Int) : intsD (ns.map .int) = some ns := by
  induction ns with
  | nil => rfl
  | cons n ns ih => simp [intsD, ih]
theorem intsD_zip (f : Int → Int → Int) (ns ms : List Int) : intsD (List.zipWith (fun x y => PyData.int (f x y)) ns ms) = some (List.zipWith f ns ms) := by
  rw [← intsD_map, List.map_zipWith]
def dotW (w : Nat) (ns ms : List Int) : Int := (List.zipWith (fun x y => x * y) ns ms).sum % 2 ^ w
theorem law_dot {S : Sto} {w : Nat} {ns ms : List Int} (hw2 : w ≤ 16) (hz : ns.length ≤ 40) (hs1 : ∀ n ∈ ns, short n) : f__law_dot [.d (.int w), .d (tupI ns), .d (tupI ms)] S = some (.ok (.d (.int (dotW w ns ms))) S) := by
  have hs : short 1 := by unfold short; omega
  have hwl : (w : Int) ≤ 1000000 := by omega
  have hp := (pow_w hw2).1
  have hc := cmp_zip (g := gPair (gVar 3) (gVar 4)) (e := (eBin pTimes (eVar 3) (eVar 4))) (σ0 := [some (.d (.int w)), some (.d (tupI ns)), some (.d (tupI ms)), none, none]) (S := S) (fun x y => x * y) ns ms [] (by have := sz_le (n := 40) (by omega); simp; omega) fun n hn m _ => ⟨_, rfl, by simp [hs1 n hn]⟩
  simp only [tupI] at hc
  simp only [List.nil_append] at hc
  simp [f__law_dot, m__law_dot, tupI, hc, dotW, intsD_zip, hs, hwl, hp]
theorem mask_eq {x : Int} {w : Nat} (hx : 0 ≤ x) : Builtin.bitAnd x (2 ^ w - 1) = x % 2 ^ w := Bits.bitAnd_mask w hx
theorem sum_nn : ∀ {ns : List Int}, (∀ n ∈ ns, 0 ≤ n) → 0 ≤ ns.sum
  | [], _ => by simp
  | n :: ns, h => by
    have h1 := h n List.mem_cons_self
    have h2 := sum_nn fun m hm => h m (List.mem_cons_of_mem _ hm)
    simp only [List.sum_cons]
    omega
theorem zip_nn : ∀ {ns ms : List Int}, (∀ n ∈ ns, 0 ≤ n) → (∀ n ∈ ms, 0 ≤ n) → ∀ n ∈ List.zipWith (fun x y => x * y) ns ms, 0 ≤ n
  | [], _, _, _, n, h => by simp at h
  | _ :: _, [], _, _, n, h => by simp at h
  | x :: xs, y :: ys, h1, h2, n, h => by
    simp only [List.zipWith_cons_cons, List.mem_cons] at h
    rcases h with rfl | h
    · exact Int.mul_nonneg (h1 x List.mem_cons_self) (h2 y List.mem_cons_self)
    · exact zip_nn (fun m hm => h1 m (List.mem_cons_of_mem _ hm)) (fun m hm => h2 m (List.mem_cons_of_mem _ hm)) n h
theorem wshort {w : Nat} {ns : List Int} (hw2 : w ≤ 16) (h : wordsW w ns) : ∀ n ∈ ns, short n := fun n hn => by
  have := h n hn
  have := (pow_w hw2).2
  unfold short
  omega
theorem p_dot {S : Sto} {w : Nat} {ns ms : List Int} (hw2 : w ≤ 16) (hz : ns.length ≤ 40) (h1 : wordsW w ns) (h2 : wordsW w ms) : f_dot [.d (.int w), .d (tupI ns), .d (tupI ms)] S = some (.ok (.d (.int (dotW w ns ms))) S) := by
  have hs : short 1 := by unfold short; omega
  have hwl : (w : Int) ≤ 1000000 := by omega
  have hs1 := wshort hw2 h1
  have hc := cmp_zip (g := gPair (gVar 4) (gVar 5)) (e := (eBin pTimes (eVar 4) (eVar 5))) (σ0 := [some (.d (.int w)), some (.d (tupI ns)), some (.d (tupI ms)), some (.d (.int (2 ^ w - 1))), none, none]) (S := S) (fun x y => x * y) ns ms [] (by have := sz_le (n := 40) (by omega); simp; omega) fun n hn m _ => ⟨_, rfl, by simp [hs1 n hn]⟩
  have hm := mask_eq (w := w) (sum_nn (zip_nn (fun n hn => (h1 n hn).1) (fun n hn => (h2 n hn).1)))
  simp only [tupI, List.nil_append] at hc
  simp [f_dot, m_dot, tupI, hc, dotW, intsD_zip, hs, hwl, hm]
abbrev xV : Exn := ⟨Str.ofString "InvalidVector", none⟩
theorem p_ok_vector {S : Sto} {w n : Nat} {v : PyData} (hw2 : w ≤ 16) (hz : ∀ ds, v = .tuple ds → ds.length ≤ sizeLine) (h : isVec w n v = true) : f_need_vector [.d (.int w), .d (.int n), .d v] S = some (.ok (.d .none) S) := by
  have := p_fits_vector (S := S) (n := n) hw2 v hz
  rw [h] at this
  simp [f_need_vector, m_need_vector, this]
theorem dig_len {w n : Nat} (hw2 : w ≤ 16) (hn : n ≤ 16777216) : (((((Str.empty ++ Str.ofString "a vector of size ") ++ Str.ofString (toString (n : Int))) ++ Str.ofString " is a tuple of ") ++ Str.ofString (toString (n : Int))) ++ Str.ofString " words of width ").length + (Str.ofString (toString (w : Int))).length ≤ 200 := by
  have h1 : (n : Int).natAbs.log2 < 30 := log_lt (n := 30) (by omega) (by omega)
  have h2 : (w : Int).natAbs.log2 < 30 := log_lt (n := 30) (by omega) (by omega)
  have l1 := int_str_len (n : Int)
  have l2 := int_str_len (w : Int)
  have e1 : (Str.ofString "a vector of size ").length = 17 := rfl
  have e2 : (Str.ofString " is a tuple of ").length = 15 := rfl
  have e3 : (Str.ofString " words of width ").length = 16 := rfl
  have e0 : Str.empty.length = 0 := rfl
  simp only [strLen_append, e0, e1, e2, e3]
  omega
theorem p_bad_vector {S : Sto} {w n : Nat} {v : PyData} (hw2 : w ≤ 16) (hn : n ≤ 16777216) (hz : ∀ ds, v = .tuple ds → ds.length ≤ sizeLine) (h : isVec w n v = false) : f_need_vector [.d (.int w), .d (.int n), .d v] S = some (.exc xV S) := by
  have := p_fits_vector (S := S) (n := n) hw2 v hz
  rw [h] at this
  have h1 : n.log2 < 1920 := by
    have : (n : Int).natAbs.log2 < 30 := log_lt (n := 30) (by omega) (by omega)
    simp at this; omega
  have h2 : w.log2 < 1920 := by
    have : (w : Int).natAbs.log2 < 30 := log_lt (n := 30) (by omega) (by omega)
    simp at this; omega
  have L := dig_len hw2 hn
  have e1 : (Str.ofString "a vector of size ").length = 17 := rfl
  have e2 : (Str.ofString " is a tuple of ").length = 15 := rfl
  have e3 : (Str.ofString " words of width ").length = 16 := rfl
  have e0 : Str.empty.length = 0 := rfl
  simp only [strLen_append, e0, e1, e2, e3] at L
  have hj : ∃ y : Str, (eJoin [(eLit (.str (Str.ofString "a vector of size "))), (eUn pFmt (eVar 1)), (eLit (.str (Str.ofString " is a tuple of "))), (eUn pFmt (eVar 1)), (eLit (.str (Str.ofString " words of width "))), (eUn pFmt (eVar 0))]) [some (.d (.int w)), some (.d (.int n)), some (.d v)] S = some (.ok (.d (.str y)) S) := by
    refine ⟨(((((Str.empty ++ Str.ofString "a vector of size ") ++ Str.ofString (toString (n : Int))) ++ Str.ofString " is a tuple of ") ++ Str.ofString (toString (n : Int))) ++ Str.ofString " words of width ") ++ Str.ofString (toString (w : Int)), ?_⟩
    have zz : ∀ k, k ≤ 200 → k ≤ sizeLine := fun k hk => sz_le (by omega)
    simp only [eJoin, jGo, eLit, eUn, eVar, pFmt, List.getElem?_cons_zero, List.getElem?_cons_succ, Res.bnd, Option.map, Int.natAbs_natCast, h1, h2, if_true]
    simp only [strLen_append, e0, e1, e2, e3, zz _ (show 0 + 17 ≤ 200 by omega), zz _ (show 0 + 17 + (Str.ofString (toString (n : Int))).length ≤ 200 by omega), zz _ (show 0 + 17 + (Str.ofString (toString (n : Int))).length + 15 ≤ 200 by omega), zz _ (show 0 + 17 + (Str.ofString (toString (n : Int))).length + 15 + (Str.ofString (toString (n : Int))).length ≤ 200 by omega), zz _ (show 0 + 17 + (Str.ofString (toString (n : Int))).length + 15 + (Str.ofString (toString (n : Int))).length + 16 ≤ 200 by omega), zz _ L, if_true]
  obtain ⟨y, hj⟩ := hj
  generalize hq : (eJoin [(eLit (.str (Str.ofString "a vector of size "))), (eUn pFmt (eVar 1)), (eLit (.str (Str.ofString " is a tuple of "))), (eUn pFmt (eVar 1)), (eLit (.str (Str.ofString " words of width "))), (eUn pFmt (eVar 0))]) = J at hj
  simp only [f_need_vector, m_need_vector, hq]
  simp [this, hj]
theorem hand_eq {i : Nat} {q : Str} {P : Addr} {gth : Th → Sto → Option FR} {ee : Ex} {σ : Sg} {S S' : Sto} {v : SV} (hT : S[i]? = some (.tab q P)) (h : gth (thOf (ee σ)) S = some (.ok v S')) : eHand i q P gth ee σ S = some (.ok v S') := by
  unfold eHand
  rw [hT]
  simp [h]
theorem app_getS {S : Sto} {o : Ob} {j : Nat} {x : Ob} (h : S[j]? = some x) : (S ++ [o])[j]? = some x := by
  rw [List.getElem?_append_left (List.getElem?_eq_some_iff.mp h).1]; exact h
theorem lay_asc {x : Str} (h : asc x = true) : PyData.canLay0 (.str x) = true := by
  simp only [PyData.canLay0, PyData.strOk]
  rw [← Array.all_toList]
  simp only [asc, List.all_eq_true, decide_eq_true_eq] at h ⊢
  intro c hc
  have := h c hc
  omega
theorem okD_strs {xs : List Str} (h : ∀ x ∈ xs, asc x = true) : okD (.list (xs.map .str)) = true := by
  unfold okD SeqAt.shaped
  have h1 : PyData.canLayAll0 (xs.map .str) = true := by
    induction xs with
    | nil => simp [PyData.canLayAll0]
    | cons x xs ih => simp [PyData.canLayAll0, lay_asc (h x List.mem_cons_self), ih fun y hy => h y (List.mem_cons_of_mem _ hy)]
  have h2 : PyData.depthAll (xs.map .str) = 0 := by
    clear h h1
    induction xs with
    | nil => simp [PyData.depthAll]
    | cons x xs ih => simp [PyData.depthAll, PyData.depth, ih]
  simp [PyData.canLay0, PyData.depth, h1, h2]
theorem eqv_strs (xs : List Str) : PyData.eqv (.list (xs.map .str)) (.list (xs.map .str)) = true := eqv_self _ (by
  simp only [PyData.hasDict]
  induction xs with
  | nil => simp [PyData.hasDictAll]
  | cons x xs ih => simp [PyData.hasDictAll, PyData.hasDict, ih])
abbrev xW : Exn := ⟨Str.ofString "InvalidWidth", none⟩
abbrev xM : Exn := ⟨Str.ofString "InvalidMatrix", none⟩
theorem lkw_width : List.lookup (Str.ofString "InvalidWidth") so_l_WordsError = some true := by decide +kernel
theorem lk_width_width : List.lookup (Str.ofString "InvalidWidth") so_l_InvalidWidth = some true := by decide +kernel
theorem lk_width_matrix : List.lookup (Str.ofString "InvalidWidth") so_l_InvalidMatrix = some false := by decide +kernel
theorem lk_width_vector : List.lookup (Str.ofString "InvalidWidth") so_l_InvalidVector = some false := by decide +kernel
theorem lkw_matrix : List.lookup (Str.ofString "InvalidMatrix") so_l_WordsError = some true := by decide +kernel
theorem lk_matrix_width : List.lookup (Str.ofString "InvalidMatrix") so_l_InvalidWidth = some false := by decide +kernel
theorem lk_matrix_matrix : List.lookup (Str.ofString "InvalidMatrix") so_l_InvalidMatrix = some true := by decide +kernel
theorem lk_matrix_vector : List.lookup (Str.ofString "InvalidMatrix") so_l_InvalidVector = some false := by decide +kernel
theorem lkw_vector : List.lookup (Str.ofString "InvalidVector") so_l_WordsError = some true := by decide +kernel
theorem lk_vector_width : List.lookup (Str.ofString "InvalidVector") so_l_InvalidWidth = some false := by decide +kernel
theorem lk_vector_matrix : List.lookup (Str.ofString "InvalidVector") so_l_InvalidMatrix = some false := by decide +kernel
theorem lk_vector_vector : List.lookup (Str.ofString "InvalidVector") so_l_InvalidVector = some true := by decide +kernel
theorem err_width {S : Sto} {th : Th} (h : th S = some (.exc xW S)) : g__law_error th S = some (.ok (.d (.str (Str.ofString "width"))) S) := by
  refine runT_eq fun p c q tl => ?_
  have hk : runK 3 1 (fun a cls d => (sSeq (sSet 2 (eCa dispL (esCons (eIsX a cls d (fun z => List.lookup z so_l_InvalidWidth) (eVar 1)) (esCons (eIsX a cls d (fun z => List.lookup z so_l_InvalidMatrix) (eVar 1)) (esCons (eIsX a cls d (fun z => List.lookup z so_l_InvalidVector) (eVar 1)) esNil)))))
    (sRet (eIf (tVal (eBin pNe (eM2 pCnt (eVar 2) (eLit (.bool true))) (eLit (.int 1)))) (eLit (.str (Str.ofString "odd"))) (eBin pIx (eCa dispL (esCons (eLit (.str (Str.ofString "width"))) (esCons (eLit (.str (Str.ofString "matrix"))) (esCons (eLit (.str (Str.ofString "vector"))) esNil)))) (eM2 pIdx (eVar 2) (eLit (.bool true)))))))) xW S = some (.rt (.d (.str (Str.ofString "width"))) S) := by
    refine runK_eq fun a cls d => ?_
    simp [lk_width_width, lk_width_matrix, lk_width_vector, eM2, flatD, PyData.eqv, okD_int, ixOf, atI, ixN, forgetF, List.replicate]
  unfold fnRun
  have hm : m__law_error p c q tl ([SV.t p c q tl th].map some ++ List.replicate 2 none) S = some (.rt (.d (.str (Str.ofString "width"))) S) := by
    unfold m__law_error
    simp only [lkw_width, sSeq, sTry, pickC, hk, sTh, List.map_cons, List.map_nil, List.cons_append, List.nil_append, List.getElem?_cons_zero, h, and_self, if_true]
  rw [hm]
  simp
theorem err_matrix {S : Sto} {th : Th} (h : th S = some (.exc xM S)) : g__law_error th S = some (.ok (.d (.str (Str.ofString "matrix"))) S) := by
  refine runT_eq fun p c q tl => ?_
  have hk : runK 3 1 (fun a cls d => (sSeq (sSet 2 (eCa dispL (esCons (eIsX a cls d (fun z => List.lookup z so_l_InvalidWidth) (eVar 1)) (esCons (eIsX a cls d (fun z => List.lookup z so_l_InvalidMatrix) (eVar 1)) (esCons (eIsX a cls d (fun z => List.lookup z so_l_InvalidVector) (eVar 1)) esNil)))))
    (sRet (eIf (tVal (eBin pNe (eM2 pCnt (eVar 2) (eLit (.bool true))) (eLit (.int 1)))) (eLit (.str (Str.ofString "odd"))) (eBin pIx (eCa dispL (esCons (eLit (.str (Str.ofString "width"))) (esCons (eLit (.str (Str.ofString "matrix"))) (esCons (eLit (.str (Str.ofString "vector"))) esNil)))) (eM2 pIdx (eVar 2) (eLit (.bool true)))))))) xM S = some (.rt (.d (.str (Str.ofString "matrix"))) S) := by
    refine runK_eq fun a cls d => ?_
    simp [lk_matrix_width, lk_matrix_matrix, lk_matrix_vector, eM2, flatD, PyData.eqv, okD_int, ixOf, atI, ixN, forgetF, List.replicate]
  unfold fnRun
  have hm : m__law_error p c q tl ([SV.t p c q tl th].map some ++ List.replicate 2 none) S = some (.rt (.d (.str (Str.ofString "matrix"))) S) := by
    unfold m__law_error
    simp only [lkw_matrix, sSeq, sTry, pickC, hk, sTh, List.map_cons, List.map_nil, List.cons_append, List.nil_append, List.getElem?_cons_zero, h, and_self, if_true]
  rw [hm]
  simp
theorem err_vector {S : Sto} {th : Th} (h : th S = some (.exc xV S)) : g__law_error th S = some (.ok (.d (.str (Str.ofString "vector"))) S) := by
  refine runT_eq fun p c q tl => ?_
  have hk : runK 3 1 (fun a cls d => (sSeq (sSet 2 (eCa dispL (esCons (eIsX a cls d (fun z => List.lookup z so_l_InvalidWidth) (eVar 1)) (esCons (eIsX a cls d (fun z => List.lookup z so_l_InvalidMatrix) (eVar 1)) (esCons (eIsX a cls d (fun z => List.lookup z so_l_InvalidVector) (eVar 1)) esNil)))))
    (sRet (eIf (tVal (eBin pNe (eM2 pCnt (eVar 2) (eLit (.bool true))) (eLit (.int 1)))) (eLit (.str (Str.ofString "odd"))) (eBin pIx (eCa dispL (esCons (eLit (.str (Str.ofString "width"))) (esCons (eLit (.str (Str.ofString "matrix"))) (esCons (eLit (.str (Str.ofString "vector"))) esNil)))) (eM2 pIdx (eVar 2) (eLit (.bool true)))))))) xV S = some (.rt (.d (.str (Str.ofString "vector"))) S) := by
    refine runK_eq fun a cls d => ?_
    simp [lk_vector_width, lk_vector_matrix, lk_vector_vector, eM2, flatD, PyData.eqv, okD_int, ixOf, atI, ixN, forgetF, List.replicate]
  unfold fnRun
  have hm : m__law_error p c q tl ([SV.t p c q tl th].map some ++ List.replicate 2 none) S = some (.rt (.d (.str (Str.ofString "vector"))) S) := by
    unfold m__law_error
    simp only [lkw_vector, sSeq, sTry, pickC, hk, sTh, List.map_cons, List.map_nil, List.cons_append, List.nil_append, List.getElem?_cons_zero, h, and_self, if_true]
  rw [hm]
  simp
theorem err_ret {S : Sto} {th : Th} {v : PyData} (h : th S = some (.ok v S)) : g__law_error th S = some (.ok (.d (.str (Str.ofString "returned"))) S) := by
  refine runT_eq fun p c q tl => ?_
  unfold fnRun
  have hm : m__law_error p c q tl ([SV.t p c q tl th].map some ++ List.replicate 2 none) S = some (.rt (.d (.str (Str.ofString "returned"))) S) := by
    unfold m__law_error
    simp only [sSeq, sTry, sTh, List.map_cons, List.map_nil, List.cons_append, List.nil_append, List.getElem?_cons_zero, h, and_self, if_true]
    simp
  rw [hm]
  simp
/-- what a call came to, told -/
inductive Out where
  | ret
  | w
  | m
  | v
  deriving DecidableEq
def Out.str : Out → Str
  | .ret => Str.ofString "returned"
  | .w => Str.ofString "width"
  | .m => Str.ofString "matrix"
  | .v => Str.ofString "vector"
def Out.is (o : Out) (r : Option (Res SV)) (S : Sto) : Prop := match o with
  | .ret => ∃ v : PyData, r = some (.ok (.d v) S)
  | .w => r = some (.exc xW S)
  | .m => r = some (.exc xM S)
  | .v => r = some (.exc xV S)
theorem hand_out {o : Out} {k : Nat} {q : Str} {P : Addr} {ee : Ex} {σ : Sg} {S : Sto} (hT : S[k]? = some (.tab q P)) (h : o.is (ee σ S) S) : eHand k q P g__law_error ee σ S = some (.ok (.d (.str o.str)) S) := by
  cases o with
  | ret =>
    obtain ⟨v, h⟩ := h
    exact hand_eq hT (err_ret (v := v) (by unfold thOf; rw [h]))
  | w => exact hand_eq hT (err_width (by unfold thOf; rw [show ee σ S = _ from h]))
  | m => exact hand_eq hT (err_matrix (by unfold thOf; rw [show ee σ S = _ from h]))
  | v => exact hand_eq hT (err_vector (by unfold thOf; rw [show ee σ S = _ from h]))
end T
set_option maxRecDepth 100000
set_option maxHeartbeats 4000000
namespace T
open PySem PySem.Spec PyProof.Rows L2 Z
/-! ## matrices -/
/-- rows of words, as data -/
def matD (m : List (List Int)) : PyData := .tuple (m.map tupI)
structure Mt (w r c : Nat) (m : List (List Int)) : Prop where
  len : m.length = r
  rows : ∀ x ∈ m, x.length = c ∧ wordsW w x
  r1 : 1 ≤ r ∧ r ≤ 5
  c1 : 1 ≤ c ∧ c ≤ 5
def anyMat (w : Nat) : PyData → Bool
  | .tuple (.tuple ds :: rest) => decide (rest.length ≤ 4) && (decide (1 ≤ ds.length ∧ ds.length ≤ 5) && (PyData.tuple ds :: rest).all (isVec w ds.length))
  | _ => false
theorem word_of {w : Nat} {d : PyData} (h : isWord w d = true) : ∃ i : Int, d = .int i ∧ 0 ≤ i ∧ i < 2 ^ w := by
  cases d with
  | int i => exact ⟨i, rfl, by simpa [isWord] using h⟩
  | _ => simp [isWord] at h
theorem words_of {w : Nat} : ∀ {ds : List PyData}, ds.all (isWord w) = true → ∃ ns : List Int, ds = ns.map .int ∧ wordsW w ns
  | [], _ => ⟨[], rfl, fun _ h => nomatch h⟩
  | d :: ds, h => by
    simp only [List.all_cons, Bool.and_eq_true] at h
    obtain ⟨i, rfl, h1⟩ := word_of h.1
    obtain ⟨ns, rfl, h2⟩ := words_of h.2
    exact ⟨i :: ns, rfl, fun n hn => (List.mem_cons.mp hn).elim (fun e => e ▸ h1) (h2 n)⟩
theorem vec_of {w n : Nat} {d : PyData} (h : isVec w n d = true) : ∃ ns : List Int, d = tupI ns ∧ ns.length = n ∧ wordsW w ns := by
  cases d with
  | tuple ds =>
    simp only [isVec, Bool.and_eq_true, decide_eq_true_eq] at h
    obtain ⟨ns, rfl, h2⟩ := words_of h.2
    exact ⟨ns, rfl, by simpa using h.1, h2⟩
  | _ => simp [isVec] at h
theorem vec_is {w n : Nat} {ns : List Int} (hl : ns.length = n) (h : wordsW w ns) : isVec w n (tupI ns) = true := by
  simp only [isVec, tupI, Bool.and_eq_true, decide_eq_true_eq, List.all_eq_true]
  refine ⟨by simpa using hl, fun d hd => ?_⟩
  obtain ⟨i, hi, rfl⟩ := List.mem_map.mp hd
  simpa [isWord] using h i hi
theorem vecs_of {w n : Nat} : ∀ {ds : List PyData}, ds.all (isVec w n) = true → ∃ m : List (List Int), ds = m.map tupI ∧ ∀ x ∈ m, x.length = n ∧ wordsW w x
  | [], _ => ⟨[], rfl, fun _ h => nomatch h⟩
  | d :: ds, h => by
    simp only [List.all_cons, Bool.and_eq_true] at h
    obtain ⟨ns, rfl, h1⟩ := vec_of h.1
    obtain ⟨m, rfl, h2⟩ := vecs_of h.2
    exact ⟨ns :: m, rfl, fun x hx => (List.mem_cons.mp hx).elim (fun e => e ▸ h1) (h2 x)⟩
theorem anyMat_of {w : Nat} {v : PyData} (h : anyMat w v = true) : ∃ (m : List (List Int)) (r c : Nat), v = matD m ∧ Mt w r c m := by
  unfold anyMat at h
  split at h
  · rename_i ds rest
    simp only [Bool.and_eq_true, decide_eq_true_eq] at h
    obtain ⟨h1, h2, h3⟩ := h
    obtain ⟨m, e, h4⟩ := vecs_of h3
    have hl : m.length = rest.length + 1 := by
      have := congrArg List.length e
      simpa using this.symm
    exact ⟨m, rest.length + 1, ds.length, by rw [matD, ← e], ⟨hl, h4, by omega, h2⟩⟩
  · cases h
theorem Mt.any {w r c : Nat} {m : List (List Int)} (h : Mt w r c m) : anyMat w (matD m) = true := by
  cases m with
  | nil => have := h.len; have := h.r1; simp at *; omega
  | cons x xs =>
    have hx := h.rows x List.mem_cons_self
    have hl := h.len
    have h1 := h.r1
    have h2 := h.c1
    simp only [List.length_cons] at hl
    simp only [matD, List.map_cons, tupI, anyMat, Bool.and_eq_true, decide_eq_true_eq, List.length_map]
    refine ⟨by omega, by omega, ?_⟩
    rw [List.all_eq_true]
    intro d hd
    have hd : d ∈ (x :: xs).map tupI := hd
    obtain ⟨y, hy, rfl⟩ := List.mem_map.mp hd
    have := h.rows y hy
    exact vec_is (by omega) this.2
theorem Mt.rc {w r c r' c' : Nat} {m : List (List Int)} (h : Mt w r c m) (h' : Mt w r' c' m) : r = r' ∧ c = c' := by
  refine ⟨by rw [← h.len, ← h'.len], ?_⟩
  cases m with
  | nil => have := h.len; have := h.r1; simp at *; omega
  | cons x xs => rw [← (h.rows x List.mem_cons_self).1, ← (h'.rows x List.mem_cons_self).1]
theorem p_fits_side {S : Sto} (n : Nat) : f_fits_side [.d (.int n)] S = some (.ok (.d (.bool (decide (1 ≤ n ∧ n ≤ 5)))) S) := by
  have h : f_fits_side [.d (.int n)] S = some (.ok (.d (.bool (decide ((1 : Int) ≤ n ∧ (n : Int) ≤ 5)))) S) := by simp [f_fits_side, m_fits_side, p_fits_bounds]
  have e : decide ((1 : Int) ≤ n ∧ (n : Int) ≤ 5) = decide (1 ≤ n ∧ n ≤ 5) := decide_eq_decide.mpr (by omega)
  rw [h, e]
theorem p_fits_any {S : Sto} {w b dep sz : Nat} (hw2 : w ≤ 16) {v : PyData} (h : Sz b dep sz v) (h2 : sz ≤ 16777216) : f_fits_any_matrix [.d (.int w), .d v] S = some (.ok (.d (.bool (anyMat w v))) S) := by
  cases v with
  | tuple ds =>
    cases ds with
    | nil =>
      have := p_fits_side (S := S) 0
      simp at this
      simp [f_fits_any_matrix, m_fits_any_matrix, this, anyMat]
    | cons d rest =>
      have e0 := p_fits_side (S := S) (rest.length + 1)
      have k0 : ((rest.length + 1 : Nat) : Int) = (rest.length : Int) + 1 := by omega
      rw [k0] at e0
      have k1 : (1 ≤ rest.length + 1 ∧ rest.length + 1 ≤ 5) ↔ rest.length ≤ 4 := by omega
      by_cases hr : rest.length ≤ 4
      · rw [decide_eq_true (k1.mpr hr)] at e0
        cases d with
        | tuple es =>
          have e1 := p_fits_side (S := S) es.length
          have e2 := p_fits_vectors (S := S) (n := es.length) hw2 h h2
          simp only at e2
          by_cases hc : 1 ≤ es.length ∧ es.length ≤ 5
          · rw [decide_eq_true hc] at e1
            simp [f_fits_any_matrix, m_fits_any_matrix, e0, e1, e2, anyMat, atI, ixN, hr, hc]
          · rw [decide_eq_false hc] at e1
            simp [f_fits_any_matrix, m_fits_any_matrix, e0, e1, anyMat, atI, ixN, hr, hc]
        | _ => simp [f_fits_any_matrix, m_fits_any_matrix, e0, anyMat, atI, ixN]
      · rw [decide_eq_false (fun z => hr (k1.mp z))] at e0
        cases d <;> simp [f_fits_any_matrix, m_fits_any_matrix, e0, anyMat, hr]
  | _ => simp [f_fits_any_matrix, m_fits_any_matrix, anyMat]
theorem p_ok_matrix {S : Sto} {w b dep sz : Nat} (hw2 : w ≤ 16) {v : PyData} (h : Sz b dep sz v) (h2 : sz ≤ 16777216) (ha : anyMat w v = true) : f_need_matrix [.d (.int w), .d v] S = some (.ok (.d .none) S) := by
  have := p_fits_any (S := S) hw2 h h2
  rw [ha] at this
  simp [f_need_matrix, m_need_matrix, this]
theorem p_bad_matrix {S : Sto} {w b dep sz : Nat} (hw2 : w ≤ 16) {v : PyData} (h : Sz b dep sz v) (h2 : sz ≤ 16777216) (ha : anyMat w v = false) : f_need_matrix [.d (.int w), .d v] S = some (.exc xM S) := by
  have := p_fits_any (S := S) hw2 h h2
  rw [ha] at this
  simp [f_need_matrix, m_need_matrix, this]
theorem l_some_matrix {S : Sto} {w b dep sz : Nat} (hw2 : w ≤ 16) {v : PyData} (h : Sz b dep sz v) (h2 : sz ≤ 16777216) : f__law_some_matrix [.d (.int w), .d v] S = some (.ok (.d (.bool (anyMat w v))) S) := by
  cases v with
  | tuple ds =>
    cases ds with
    | nil => simp [f__law_some_matrix, m__law_some_matrix, anyMat]
    | cons d rest =>
      have k1 : ((1 : Int) ≤ (rest.length : Int) + 1) := by omega
      by_cases hr : rest.length ≤ 4
      · have k2 : (rest.length : Int) + 1 ≤ 5 := by omega
        cases d with
        | tuple es =>
          have e2 := l_is_matrix (S := S) (r := rest.length + 1) (c := es.length) hw2 h h2
          have k0 : ((rest.length + 1 : Nat) : Int) = (rest.length : Int) + 1 := by omega
          rw [k0] at e2
          have e3 : isMat w (rest.length + 1) es.length (.tuple (.tuple es :: rest)) = (PyData.tuple es :: rest).all (isVec w es.length) := by simp [isMat]
          rw [e3] at e2
          by_cases hc : 1 ≤ es.length
          · by_cases hc2 : es.length ≤ 5
            · have q1 : (1 : Int) ≤ es.length := by omega
              have q2 : (es.length : Int) ≤ 5 := by omega
              simp [f__law_some_matrix, m__law_some_matrix, anyMat, atI, ixN, k1, k2, q1, q2, hr, hc, hc2, e2]
            · have q1 : (1 : Int) ≤ es.length := by omega
              have q2 : ¬ (es.length : Int) ≤ 5 := by omega
              simp [f__law_some_matrix, m__law_some_matrix, anyMat, atI, ixN, k1, k2, q1, q2, hr, hc, hc2]
          · have q1 : ¬ (1 : Int) ≤ es.length := by omega
            simp [f__law_some_matrix, m__law_some_matrix, anyMat, atI, ixN, k1, k2, q1, hr, hc]
        | _ => simp [f__law_some_matrix, m__law_some_matrix, anyMat, atI, ixN, k1, k2]
      · have k2 : ¬ (rest.length : Int) + 1 ≤ 5 := by omega
        cases d <;> simp [f__law_some_matrix, m__law_some_matrix, anyMat, k1, k2, hr]
  | _ => simp [f__law_some_matrix, m__law_some_matrix, anyMat]
end T
set_option maxRecDepth 100000
set_option maxHeartbeats 4000000
namespace T
open PySem PySem.Spec PyProof.Rows L2 Z MM
/-! ## products of matrices, by numbers -/
def wid (b : List (List Int)) : Nat := (b.headD []).length
def at2 (b : List (List Int)) (k j : Nat) : Int := (b.getD k []).getD j 0
/-- a row times a matrix, the first n rows of it -/
def rowN (w : Nat) (row : List Int) (b : List (List Int)) (n c : Nat) : List Int := (List.range c).map fun j => sN (fun k => row.getD k 0 * at2 b k j) n % 2 ^ w
def rowT (w : Nat) (row : List Int) (b : List (List Int)) : List Int := rowN w row b b.length (wid b)
def pm (w : Nat) (a b : List (List Int)) : List (List Int) := a.map fun row => rowT w row b
def mv (w : Nat) (a : List (List Int)) (v : List Int) : List Int := a.map fun row => dotW w row v
theorem sum_sN : ∀ {xs ys : List Int}, xs.length = ys.length → (List.zipWith (fun x y => x * y) xs ys).sum = sN (fun k => xs.getD k 0 * ys.getD k 0) xs.length
  | [], [], _ => rfl
  | x :: xs, y :: ys, h => by
    have ih := sum_sN (xs := xs) (ys := ys) (by simpa using h)
    have hs : ∀ (f : Nat → Int) (n : Nat), sN f (n + 1) = f 0 + sN (fun k => f (k + 1)) n := by
      intro f n
      induction n with
      | zero => simp [sN]
      | succ n ih => rw [sN, ih, sN]; omega
    rw [List.zipWith_cons_cons, List.sum_cons, ih, List.length_cons, hs]
    rfl
theorem dotW_sN {w : Nat} {xs ys : List Int} (h : xs.length = ys.length) : dotW w xs ys = sN (fun k => xs.getD k 0 * ys.getD k 0) xs.length % 2 ^ w := by
  unfold dotW
  rw [sum_sN h]
theorem getD_map {α β : Type} {f : α → β} {l : List α} {i : Nat} {d : β} {d' : α} (h : i < l.length) : (l.map f).getD i d = f (l.getD i d') := by
  simp [List.getD, h]
theorem getD_range {f : Nat → Int} {c j : Nat} (h : j < c) : ((List.range c).map f).getD j 0 = f j := by
  simp [List.getD, h]
theorem mod_words {w : Nat} (hw2 : w ≤ 16) (x : Int) : 0 ≤ x % 2 ^ w ∧ x % 2 ^ w < 2 ^ w := by
  have hp := (pow_w hw2).1
  exact ⟨Int.emod_nonneg _ (by omega), Int.emod_lt_of_pos _ hp⟩
theorem rowN_words {w : Nat} (hw2 : w ≤ 16) {row : List Int} {b : List (List Int)} {n c : Nat} : wordsW w (rowN w row b n c) := fun x hx => by
  obtain ⟨j, _, rfl⟩ := List.mem_map.mp hx
  exact mod_words hw2 _
theorem mv_words {w : Nat} (hw2 : w ≤ 16) {a : List (List Int)} {v : List Int} : wordsW w (mv w a v) := fun x hx => by
  obtain ⟨j, _, rfl⟩ := List.mem_map.mp hx
  exact mod_words hw2 _
theorem Mt.wid {w r c : Nat} {m : List (List Int)} (h : Mt w r c m) : T.wid m = c := by
  cases m with
  | nil => have := h.len; have := h.r1; simp at *; omega
  | cons x xs => exact (h.rows x List.mem_cons_self).1
theorem Mt.row {w r c : Nat} {m : List (List Int)} (h : Mt w r c m) {i : Nat} (hi : i < r) : (m.getD i []).length = c ∧ wordsW w (m.getD i []) := by
  have hi' : i < m.length := by rw [h.len]; exact hi
  have : m.getD i [] = m[i] := by simp [List.getD, hi']
  rw [this]
  exact h.rows _ (List.getElem_mem hi')
theorem Mt.pm {w r c d : Nat} {a b : List (List Int)} (hw2 : w ≤ 16) (ha : Mt w r c a) (hb : Mt w c d b) : Mt w r d (T.pm w a b) := by
  refine ⟨by unfold T.pm; rw [List.length_map, ha.len], fun x hx => ?_, ha.r1, hb.c1⟩
  unfold T.pm at hx
  obtain ⟨row, hr, rfl⟩ := List.mem_map.mp hx
  exact ⟨by unfold rowT rowN; rw [List.length_map, List.length_range, hb.wid], rowN_words hw2⟩
theorem mv_len {w : Nat} {a : List (List Int)} {v : List Int} : (mv w a v).length = a.length := List.length_map _
/-- (row a) b = row (a b) -/
theorem rowT_pm {w c d : Nat} {row : List Int} {a b : List (List Int)} {r : Nat} (ha : Mt w r c a) (hb : Mt w c d b) : rowT w (rowT w row a) b = rowT w row (T.pm w a b) := by
  have hpl : (T.pm w a b).length = r := by unfold T.pm; rw [List.length_map, ha.len]
  have hpw : T.wid (T.pm w a b) = d := by
    unfold T.wid T.pm
    cases a with
    | nil => have := ha.len; have := ha.r1; simp at *; omega
    | cons x xs => simp [rowT, rowN, hb.wid]
  unfold rowT rowN
  rw [hb.wid, hpw]
  refine List.map_congr_left fun j hj => ?_
  have hj := List.mem_range.mp hj
  rw [hb.len, ha.len, ha.wid, hpl]
  have e1 : sN (fun k => ((List.range c).map fun j => sN (fun k => row.getD k 0 * at2 a k j) r % 2 ^ w).getD k 0 * at2 b k j) c = sN (fun k => (sN (fun i => row.getD i 0 * at2 a i k) r % 2 ^ w) * at2 b k j) c :=
    sN_congr fun k hk => by rw [getD_range hk]
  have e2 : sN (fun k => row.getD k 0 * at2 (T.pm w a b) k j) r = sN (fun i => row.getD i 0 * (sN (fun k => at2 a i k * at2 b k j) c % 2 ^ w)) r :=
    sN_congr fun i hi => by
      have : at2 (T.pm w a b) i j = sN (fun k => at2 a i k * at2 b k j) c % 2 ^ w := by
        unfold at2 T.pm
        rw [getD_map (d' := []) (by rw [ha.len]; exact hi)]
        unfold rowT rowN
        rw [hb.wid, getD_range hj, hb.len]
        rfl
      rw [this]
  rw [e1, e2]
  exact MM.assoc (2 ^ w) (fun i => row.getD i 0) (fun i k => at2 a i k) (fun k => at2 b k j) r c
theorem pm_assoc {w r c d : Nat} {x a b : List (List Int)} (ha : Mt w r c a) (hb : Mt w c d b) : T.pm w (T.pm w x a) b = T.pm w x (T.pm w a b) := by
  unfold T.pm
  rw [List.map_map]
  exact List.map_congr_left fun row _ => rowT_pm ha hb
theorem mv_pm {w r c d : Nat} {a b : List (List Int)} {v : List Int} (ha : Mt w r c a) (hb : Mt w c d b) (hv : v.length = d) : mv w (T.pm w a b) v = mv w a (mv w b v) := by
  unfold mv T.pm
  rw [List.map_map]
  refine List.map_congr_left fun row hrow => ?_
  have hrl := (ha.rows row hrow).1
  show dotW w (rowT w row b) v = dotW w row (b.map fun row => dotW w row v)
  have l1 : (rowT w row b).length = d := by unfold rowT rowN; rw [List.length_map, List.length_range, hb.wid]
  rw [dotW_sN (l1.trans hv.symm), dotW_sN (by rw [List.length_map, hb.len]; exact hrl), l1, hrl]
  have e1 : sN (fun k => (rowT w row b).getD k 0 * v.getD k 0) d = sN (fun j => (sN (fun k => row.getD k 0 * at2 b k j) c % 2 ^ w) * v.getD j 0) d :=
    sN_congr fun j hj => by unfold rowT rowN; rw [hb.wid, getD_range hj, hb.len]
  have e2 : sN (fun k => row.getD k 0 * (b.map fun row => dotW w row v).getD k 0) c = sN (fun k => row.getD k 0 * (sN (fun j => at2 b k j * v.getD j 0) d % 2 ^ w)) c :=
    sN_congr fun k hk => by
      rw [getD_map (d' := []) (by rw [hb.len]; exact hk), dotW_sN (by rw [(hb.row hk).1]; exact hv.symm), (hb.row hk).1]
      rfl
  rw [e1, e2]
  exact MM.assoc (2 ^ w) (fun k => row.getD k 0) (fun k j => at2 b k j) (fun j => v.getD j 0) c d
end T
set_option maxRecDepth 100000
set_option maxHeartbeats 4000000
namespace T
open PySem PySem.Spec PyProof.Rows L2 Z MM
theorem word_log {w : Nat} {n : Int} (hw2 : w ≤ 16) (h : 0 ≤ n ∧ n < 2 ^ w) : n.natAbs.log2 ≤ 15 := by
  have := (pow_w hw2).2
  have h2 : n.natAbs < 2 ^ 16 := by omega
  have := log_lt (i := n) h2 (by omega)
  omega
theorem row_szs {w : Nat} (hw2 : w ≤ 16) : ∀ {ns : List Int}, wordsW w ns → Szs 16 0 (20 * ns.length) (ns.map .int)
  | [], _ => Szs.nil
  | n :: ns, h => by
    have h1 := word_log hw2 (h n List.mem_cons_self)
    have h2 := row_szs hw2 (ns := ns) fun m hm => h m (List.mem_cons_of_mem _ hm)
    exact (Szs.cons (Sz.int (b := 16) (dep := 0) (i := n) (by omega)) h2).mono (Nat.le_refl _) (Nat.le_refl _) (by rw [List.length_cons]; omega)
theorem rows_szs {w c : Nat} (hw2 : w ≤ 16) (hc : c ≤ 5) : ∀ {m : List (List Int)}, (∀ x ∈ m, x.length = c ∧ wordsW w x) → Szs 16 1 (105 * m.length) (m.map tupI)
  | [], _ => Szs.nil
  | x :: m, h => by
    obtain ⟨hl, hw⟩ := h x List.mem_cons_self
    have h1 := (row_szs hw2 hw).tup
    have h2 := rows_szs hw2 hc (m := m) fun y hm => h y (List.mem_cons_of_mem _ hm)
    refine (Szs.cons (sz := 103) (h1.mono (Nat.le_refl _) (Nat.le_refl _) (by omega)) h2).mono (Nat.le_refl _) (Nat.le_refl _) (by rw [List.length_cons]; omega)
theorem Mt.sz {w r c : Nat} {m : List (List Int)} (h : Mt w r c m) (hw2 : w ≤ 16) : Sz 16 2 528 (matD m) := by
  have h1 := h.len
  have h2 := h.r1
  exact (rows_szs hw2 h.c1.2 h.rows).tup.mono (Nat.le_refl _) (Nat.le_refl _) (by omega)
theorem vec_sz {w c : Nat} (hw2 : w ≤ 16) (hc : c ≤ 5) {v : List Int} (hl : v.length = c) (hw : wordsW w v) : Sz 16 1 103 (tupI v) :=
  (row_szs hw2 hw).tup.mono (Nat.le_refl _) (Nat.le_refl _) (by omega)
/-- a comprehension over rows -/
theorem cmp_rows {g : Tg} {e : Ex} {σ0 : Sg} {S : Sto} (f : List Int → PyData) : ∀ (m : List (List Int)) (acc : List PyData), acc.length + m.length ≤ sizeLine →
    (∀ x ∈ m, ∃ σ1, g (tupI x) σ0 = some σ1 ∧ e σ1 S = some (.ok (.d (f x)) S)) → cmpGo none g tTrue e σ0 (m.map tupI) acc S = some (S, acc ++ m.map f)
  | [], acc, _, _ => by simp [cmpGo, gdOk]
  | x :: m, acc, hz, h => by
    obtain ⟨σ1, e1, e2⟩ := h x List.mem_cons_self
    have ih := cmp_rows f m (acc ++ [f x]) (by simp at hz ⊢; omega) fun y hy => h y (List.mem_cons_of_mem _ hy)
    have hlt : acc.length < sizeLine := by simp at hz; omega
    simp [cmpGo, gdOk, e1, e2, hlt, ih]
theorem p_times_vector {S : Sto} {w : Nat} {C : PyData} {m : List (List Int)} {v : List Int} (hw2 : w ≤ 16) (hC : C = .tuple (m.map tupI) ∨ C = .list (m.map tupI)) (hm : m.length ≤ 40) (hr : ∀ x ∈ m, x.length ≤ 40 ∧ wordsW w x) (hv : wordsW w v) :
    f_times_vector [.d (.int w), .d C, .d (tupI v)] S = some (.ok (.d (tupI (mv w m v))) S) := by
  have hc := fun σ0 (h0 : σ0 = [some (.d (.int w)), some (.d C), some (.d (tupI v)), none]) => cmp_rows (g := gVar 3) (e := (eCall f_dot (esCons (eVar 0) (esCons (eVar 3) (esCons (eVar 2) esNil))))) (σ0 := σ0) (S := S) (fun x => .int (dotW w x v)) m [] (by have := sz_le (n := 40) (by omega); simp; omega) fun x hx => ⟨_, rfl, by
    subst h0
    simp [p_dot hw2 (hr x hx).1 (hr x hx).2 hv]⟩
  have e1 : (m.map fun x => PyData.int (dotW w x v)) = (mv w m v).map .int := by unfold mv; rw [List.map_map]; rfl
  have hc := hc _ rfl
  rw [List.nil_append, e1] at hc
  rw [show tupI (mv w m v) = .tuple ((mv w m v).map .int) from rfl]
  rcases hC with rfl | rfl
  · simp [f_times_vector, m_times_vector, hc]
  · simp [f_times_vector, m_times_vector, hc]
def colsI (b : List (List Int)) : List (List Int) := (List.range (wid b)).map fun j => b.map fun r => r.getD j 0
theorem rowsOf_mat : ∀ b : List (List Int), rowsOf (b.map tupI) = some (b.map fun r => r.map PyData.int)
  | [] => rfl
  | r :: b => by
    have := rowsOf_mat b
    show (rowsOf (b.map tupI)).map (r.map PyData.int :: ·) = _
    rw [this]; rfl
theorem minL_const : ∀ (l : List Nat) (c : Nat), l ≠ [] → (∀ x ∈ l, x = c) → minL l = c
  | [x], c, _, h => h x List.mem_cons_self
  | x :: y :: r, c, _, h => by
    show min x (minL (y :: r)) = c
    rw [minL_const (y :: r) c (by simp) fun z hz => h z (List.mem_cons_of_mem _ hz), h x List.mem_cons_self, Nat.min_self]
theorem cols_mat {w r c : Nat} {b : List (List Int)} (h : Mt w r c b) : (colsOf PyData.none (b.map fun r => r.map PyData.int)).map PyData.tuple = (colsI b).map tupI := by
  have hne : (b.map fun r => r.map PyData.int).map List.length ≠ [] := by
    cases b with
    | nil => have := h.len; have := h.r1; simp at *; omega
    | cons x xs => simp
  have hm : minL ((b.map fun r => r.map PyData.int).map List.length) = c := minL_const _ c hne fun x hx => by
    rw [List.map_map] at hx
    obtain ⟨y, hy, rfl⟩ := List.mem_map.mp hx
    simpa using (h.rows y hy).1
  unfold colsOf colsI
  rw [hm, h.wid, List.map_map, List.map_map]
  refine List.map_congr_left fun j hj => ?_
  have hj := List.mem_range.mp hj
  show PyData.tuple ((b.map fun r => r.map PyData.int).map fun xs => xs.getD j PyData.none) = PyData.tuple ((b.map fun r => r.getD j 0).map PyData.int)
  congr 1
  rw [List.map_map, List.map_map]
  refine List.map_congr_left fun x hx => ?_
  have hl := (h.rows x hx).1
  show (x.map PyData.int).getD j .none = PyData.int (x.getD j 0)
  exact getD_map (d' := 0) (by omega)
theorem colsI_rows {w r c : Nat} {b : List (List Int)} (h : Mt w r c b) : (colsI b).length = c ∧ ∀ x ∈ colsI b, x.length = r ∧ wordsW w x := by
  unfold colsI
  rw [h.wid]
  refine ⟨by simp, fun x hx => ?_⟩
  obtain ⟨j, hj, rfl⟩ := List.mem_map.mp hx
  have hj := List.mem_range.mp hj
  refine ⟨by rw [List.length_map, h.len], fun n hn => ?_⟩
  obtain ⟨y, hy, rfl⟩ := List.mem_map.mp hn
  obtain ⟨h1, h2⟩ := h.rows y hy
  have : y.getD j 0 = y[j]'(by omega) := by simp [List.getD, h1, hj]
  rw [this]
  exact h2 _ (List.getElem_mem _)
theorem mv_cols {w r c : Nat} {row : List Int} {b : List (List Int)} (h : Mt w r c b) (hl : row.length = r) : mv w (colsI b) row = rowT w row b := by
  unfold mv colsI rowT rowN
  rw [h.wid, h.len, List.map_map]
  refine List.map_congr_left fun j hj => ?_
  have hj := List.mem_range.mp hj
  show dotW w (b.map fun r => r.getD j 0) row = _
  rw [dotW_sN (by rw [List.length_map, h.len, hl]), List.length_map, h.len]
  congr 1
  refine sN_congr fun k hk => ?_
  rw [getD_map (d' := []) (by rw [h.len]; exact hk), Int.mul_comm]
  rfl
theorem p_times_matrix {S : Sto} {w r c d : Nat} {a b : List (List Int)} (hw2 : w ≤ 16) (ha : Mt w r c a) (hb : Mt w c d b) : f_times_matrix [.d (.int w), .d (matD a), .d (matD b)] S = some (.ok (.d (matD (pm w a b))) S) := by
  obtain ⟨l1, l2⟩ := colsI_rows hb
  have hz : pZipS (.d (matD b)) S = some (.d (.list ((colsI b).map tupI))) := by
    show zipRows (b.map tupI) = _
    unfold zipRows
    rw [rowsOf_mat]
    have h1 := hb.len
    have h2 := hb.r1
    simp only
    rw [if_pos ⟨by
      intro z
      have := congrArg List.length z
      rw [List.length_map, List.length_nil] at this
      omega, by rw [List.length_map]; omega⟩, cols_mat hb]
  have hc := cmp_rows (g := gVar 4) (e := (eCall f_times_vector (esCons (eVar 0) (esCons (eVar 3) (esCons (eVar 4) esNil))))) (σ0 := [some (.d (.int w)), some (.d (matD a)), some (.d (matD b)), some (.d (.list ((colsI b).map tupI))), none]) (S := S) (fun x => tupI (rowT w x b)) a [] (by have := sz_le (n := 40) (by omega); have := ha.len; have := ha.r1; simp; omega) fun x hx => ⟨_, rfl, by
    have h1 := hb.c1
    have h2 := hb.r1
    have := p_times_vector (S := S) (C := .list ((colsI b).map tupI)) hw2 (.inr rfl) (by omega) (fun y hy => ⟨by have := (l2 y hy).1; omega, (l2 y hy).2⟩) (ha.rows x hx).2
    rw [mv_cols hb (ha.rows x hx).1] at this
    simp [this]⟩
  have e1 : (a.map fun x => tupI (rowT w x b)) = (pm w a b).map tupI := by unfold pm; rw [List.map_map]; rfl
  rw [List.nil_append, e1] at hc
  have hz' : (eUn pZipS (eVar 2)) [some (.d (.int w)), some (.d (matD a)), some (.d (matD b)), none, none] S = some (.ok (.d (.list ((colsI b).map tupI))) S) := by
    show Res.bnd (some (.ok (.d (matD b)) S)) (fun x S1 => (pZipS x S1).map fun z => Res.ok z S1) = _
    simp only [Res.bnd, hz, Option.map]
  generalize hq : (eUn pZipS (eVar 2)) = q at hz'
  have hm : m_times_matrix [some (.d (.int w)), some (.d (matD a)), some (.d (matD b)), none, none] S = some (.rt (.d (matD (pm w a b))) S) := by
    unfold m_times_matrix
    rw [hq, seq_nx (σ' := [some (.d (.int w)), some (.d (matD a)), some (.d (matD b)), some (.d (.list ((colsI b).map tupI))), none]) (S' := S) (by simp [hz'])]
    show Sm.bnd _ _ = _
    simp only [matD] at hc ⊢
    simp [hc]
  simp [f_times_matrix, hm]
end T
set_option maxRecDepth 100000
set_option maxHeartbeats 4000000
namespace T
open PySem PySem.Spec PyProof.Rows L2 Z MM
/-! ## the text's own product -/
theorem zip_range {g : Nat → Int} {f : Int → Int → Int} : ∀ {c : Nat} {ys : List Int}, ys.length = c → List.zipWith f ((List.range c).map g) ys = (List.range c).map fun j => f (g j) (ys.getD j 0) := by
  intro c ys h
  apply List.ext_getElem
  · simp [h]
  · intro i h1 h2
    have hi : i < ys.length := by simp at h1; omega
    simp [List.getD, hi]
theorem rowN_succ {w c n : Nat} {row : List Int} {b : List (List Int)} (hl : (b.getD n []).length = c) : List.zipWith (fun x y => (x + row.getD n 0 * y) % 2 ^ w) (rowN w row b n c) (b.getD n []) = rowN w row b (n + 1) c := by
  unfold rowN
  rw [zip_range hl]
  refine List.map_congr_left fun j _ => ?_
  show (sN (fun k => row.getD k 0 * at2 b k j) n % 2 ^ w + row.getD n 0 * (b.getD n []).getD j 0) % 2 ^ w = (sN (fun k => row.getD k 0 * at2 b k j) n + row.getD n 0 * at2 b n j) % 2 ^ w
  rw [Int.emod_add_emod]
  rfl
theorem l_row_times {S : Sto} {w r c : Nat} {row : List Int} {b : List (List Int)} (hw2 : w ≤ 16) (hb : Mt w r c b) (hl : row.length = r) (hw : wordsW w row) : f__law_row_times [.d (.int w), .d (tupI row), .d (matD b)] S = some (.ok (.d (tupI (rowT w row b))) S) := by
  have hs : short 1 := by unfold short; omega
  have hwl : (w : Int) ≤ 1000000 := by omega
  have hp := (pow_w hw2).1
  have hr1 := hb.r1
  have hc1 := hb.c1
  generalize hbody : (sSet 3 (eComp (wZip2 (eVar 3) (eVar 5)) (gPair (gVar 6) (gVar 7)) tTrue (eBin pMod (eBin pPlus (eVar 6) (eBin pTimes (eVar 4) (eVar 7))) (eBin pShl (eLit (.int 1)) (eVar 0))) [6, 7]) : Sm) = body
  obtain ⟨σ', S', e, eS, x4, x5, x6, x7, rfl⟩ := forGo_inv (g := gPair (gVar 4) (gVar 5)) (body := body)
    (fun n σ T => T = S ∧ ∃ x4 x5 x6 x7, σ = [some (.d (.int w)), some (.d (tupI row)), some (.d (matD b)), some (.d (.list ((rowN w row b n c).map .int))), x4, x5, x6, x7]) (zipD (row.map .int) (b.map tupI)) 0 (by
      rintro n d σ T hd ⟨rfl, x4, x5, x6, x7, rfl⟩
      rw [Nat.zero_add]
      obtain ⟨dx, dy, h1, h2, rfl⟩ := zipD_get hd
      rw [List.getElem?_map] at h1 h2
      cases hx : row[n]? with
      | none => rw [hx] at h1; cases h1
      | some x =>
      cases hy : b[n]? with
      | none => rw [hy] at h2; cases h2
      | some y =>
      rw [hx] at h1
      rw [hy] at h2
      cases h1
      cases h2
      have gx : row.getD n 0 = x := by simp [List.getD, hx]
      have gy : b.getD n [] = y := by simp [List.getD, hy]
      have hyl := (hb.rows y (List.mem_of_getElem? hy)).1
      have hsx := wshort hw2 hw x (List.mem_of_getElem? hx)
      have hc := cmp_zip (g := gPair (gVar 6) (gVar 7)) (e := (eBin pMod (eBin pPlus (eVar 6) (eBin pTimes (eVar 4) (eVar 7))) (eBin pShl (eLit (.int 1)) (eVar 0)))) (σ0 := [some (.d (.int w)), some (.d (tupI row)), some (.d (matD b)), some (.d (.list ((rowN w row b n c).map .int))), some (.d (.int x)), some (.d (tupI y)), none, none]) (S := T) (fun u v => (u + x * v) % 2 ^ w) (rowN w row b n c) y [] (by
          have := sz_le (n := 40) (by omega)
          simp [rowN]; omega) fun u _ v _ => ⟨_, rfl, by simp [hsx, hs, hwl, hp]⟩
      have hz := rowN_succ (w := w) (n := n) (row := row) (b := b) (c := c) (by rw [gy]; exact hyl)
      rw [gx, gy] at hz
      rw [List.nil_append, hz] at hc
      refine ⟨_, rfl, [some (.d (.int w)), some (.d (tupI row)), some (.d (matD b)), some (.d (.list ((rowN w row b (n + 1) c).map .int))), some (.d (.int x)), some (.d (tupI y)), x6, x7], T, ?_, rfl, _, _, _, _, rfl⟩
      subst hbody
      simp only [tupI] at hc ⊢
      simp [hc])
    [some (.d (.int w)), some (.d (tupI row)), some (.d (matD b)), some (.d (.list ((rowN w row b 0 c).map .int))), none, none, none, none] S ⟨rfl, _, _, _, _, rfl⟩
  rw [eS] at e
  have ez : 0 + (zipD (row.map .int) (b.map tupI)).length = b.length := by rw [zipD_len, List.length_map, List.length_map, hb.len, hl]; simp
  rw [ez] at e
  have e0 : rowN w row b 0 c = List.replicate c 0 := by
    unfold rowN
    apply List.ext_getElem
    · simp
    · intro i h1 h2; simp [sN]
  rw [e0] at e
  have er : rowN w row b b.length c = rowT w row b := by unfold rowT; rw [hb.wid]
  rw [er] at e
  have hbl : 0 < b.length := by rw [hb.len]; omega
  have hl0 : (b[0]'hbl).length = c := (hb.rows _ (List.getElem_mem hbl)).1
  have hm : m__law_row_times [some (.d (.int w)), some (.d (tupI row)), some (.d (matD b)), none, none, none, none, none] S = some (.rt (.d (tupI (rowT w row b))) S) := by
    unfold m__law_row_times
    rw [hbody]
    have hc1000 : (c : Int) ≤ 1000 := by omega
    have hc1000' : (-1000 : Int) ≤ c := by omega
    rw [seq_nx (σ' := [some (.d (.int w)), some (.d (tupI row)), some (.d (matD b)), some (.d (.list ((List.replicate c 0).map .int))), none, none, none, none]) (S' := S) (by
      simp [matD, tupI, atI, ixN, hbl, hl0, hc1000, hc1000'])]
    rw [seq_nx (σ' := [some (.d (.int w)), some (.d (tupI row)), some (.d (matD b)), some (.d (.list ((rowT w row b).map .int))), x4, x5, x6, x7]) (S' := S) (by
      show Sm.bnd (wZip2 (eVar 1) (eVar 2) _ S) (fun wk S1 => forGo wk.own (gPair (gVar 4) (gVar 5)) body wk.ds _ S1) = _
      rw [show wZip2 (eVar 1) (eVar 2) [some (.d (.int w)), some (.d (tupI row)), some (.d (matD b)), some (.d (.list ((List.replicate c 0).map .int))), none, none, none, none] S = some (.ok ⟨zipD (row.map .int) (b.map tupI), none⟩ S) from rfl]
      exact e)]
    simp [tupI]
  simp [f__law_row_times, hm]
theorem l_product {S : Sto} {w r c d : Nat} {a b : List (List Int)} (hw2 : w ≤ 16) (ha : Mt w r c a) (hb : Mt w c d b) : f__law_product [.d (.int w), .d (matD a), .d (matD b)] S = some (.ok (.d (matD (pm w a b))) S) := by
  have hc := cmp_rows (g := gVar 3) (e := (eCall f__law_row_times (esCons (eVar 0) (esCons (eVar 3) (esCons (eVar 2) esNil))))) (σ0 := [some (.d (.int w)), some (.d (matD a)), some (.d (matD b)), none]) (S := S) (fun x => tupI (rowT w x b)) a [] (by have := sz_le (n := 40) (by omega); have := ha.len; have := ha.r1; simp; omega) fun x hx => ⟨_, rfl, by
    have := l_row_times (S := S) hw2 hb (ha.rows x hx).1 (ha.rows x hx).2
    simp [this]⟩
  have e1 : (a.map fun x => tupI (rowT w x b)) = (pm w a b).map tupI := by unfold pm; rw [List.map_map]; rfl
  rw [List.nil_append, e1] at hc
  rw [show matD (pm w a b) = .tuple ((pm w a b).map tupI) from rfl]
  simp only [matD] at hc ⊢
  simp [f__law_product, m__law_product, hc]
/-! ## the program's product of many -/
/-- the matrices fit -/
def Ch : List (List (List Int)) → Prop
  | [] => True
  | [_] => True
  | a :: b :: r => b.length = wid a ∧ Ch (b :: r)
noncomputable instance (l : List (List (List Int))) : Decidable (Ch l) := Classical.propDecidable _
noncomputable abbrev bodyN : Sm := (sDo (eCall f_need_matrix (esCons (eVar 0) (esCons (eVar 2) esNil))))
theorem loop_need {S : Sto} {w b dep sz : Nat} (hw2 : w ≤ 16) (h2 : sz ≤ 16777216) {x1 x3 x4 x5 : Option SV} : ∀ (ds : List PyData) (x2 : Option SV), (∀ d ∈ ds, Sz b dep sz d) →
    ∃ x2', forGo none (gVar 2) bodyN ds [some (.d (.int w)), x1, x2, x3, x4, x5] S = if ds.all (anyMat w) = true then some (.nx [some (.d (.int w)), x1, x2', x3, x4, x5] S) else some (.exc xM S)
  | [], x2, _ => ⟨x2, by simp [forGo, gdOk]⟩
  | d :: ds, x2, h => by
    obtain ⟨x2', e⟩ := loop_need hw2 h2 (x1 := x1) (x3 := x3) (x4 := x4) (x5 := x5) ds (some (.d d)) fun y hy => h y (List.mem_cons_of_mem _ hy)
    refine ⟨x2', ?_⟩
    cases hd : anyMat w d with
    | true =>
      have := p_ok_matrix (S := S) hw2 (h d List.mem_cons_self) h2 hd
      simp [forGo, gdOk, bodyN, this, hd] at e ⊢
      exact e
    | false =>
      have := p_bad_matrix (S := S) hw2 (h d List.mem_cons_self) h2 hd
      simp [forGo, gdOk, bodyN, this, hd]
noncomputable abbrev bodyC : Sm := (sIf (tVal (eBin pNe (eCa pLen (esCons (eVar 4) esNil)) (eCa pLen (esCons (eBin pIx (eVar 3) (eLit (.int 0))) esNil)))) (sRaise (Str.ofString "InvalidMatrix") (eLit (.str (Str.ofString "a matrix has as many rows as the one before it has columns")))) sNil)
theorem body_ch {S : Sto} {w : Nat} {x1 x2 x5 : Option SV} {a b : List (List Int)} (ha : a ≠ []) : bodyC [some (.d (.int w)), x1, x2, some (.d (matD a)), some (.d (matD b)), x5] S = if b.length = wid a then some (.nx [some (.d (.int w)), x1, x2, some (.d (matD a)), some (.d (matD b)), x5] S) else some (.exc xM S) := by
  cases a with
  | nil => exact absurd rfl ha
  | cons y ys =>
    by_cases h : b.length = y.length
    · have h' : (b.length : Int) = y.length := by omega
      simp [bodyC, matD, tupI, atI, ixN, wid, h, okD_int, PyData.eqv]
    · have h' : ¬ (b.length : Int) = y.length := by omega
      simp [bodyC, matD, tupI, atI, ixN, wid, h, h', okD_int, PyData.eqv]
theorem loop_ch {S : Sto} {w : Nat} {x1 x2 x5 : Option SV} : ∀ (m : List (List Int)) (ms : List (List (List Int))) (x3 x4 : Option SV), (∀ y ∈ m :: ms, y ≠ []) →
    ∃ x3' x4', forGo none (gPair (gVar 3) (gVar 4)) bodyC (zipD ((m :: ms).map matD) (ms.map matD)) [some (.d (.int w)), x1, x2, x3, x4, x5] S = if Ch (m :: ms) then some (.nx [some (.d (.int w)), x1, x2, x3', x4', x5] S) else some (.exc xM S)
  | m, [], x3, x4, _ => ⟨x3, x4, by simp [zipD, forGo, gdOk, Ch]⟩
  | m, m2 :: ms, x3, x4, h => by
    obtain ⟨x3', x4', e⟩ := loop_ch (S := S) (w := w) (x1 := x1) (x2 := x2) (x5 := x5) m2 ms (some (.d (matD m))) (some (.d (matD m2))) fun y hy => h y (List.mem_cons_of_mem _ hy)
    refine ⟨x3', x4', ?_⟩
    have hb := body_ch (S := S) (w := w) (x1 := x1) (x2 := x2) (x5 := x5) (a := m) (b := m2) (h m List.mem_cons_self)
    have hg : gPair (gVar 3) (gVar 4) (.tuple [matD m, matD m2]) [some (.d (.int w)), x1, x2, x3, x4, x5] = some [some (.d (.int w)), x1, x2, some (.d (matD m)), some (.d (matD m2)), x5] := rfl
    generalize hq : (bodyC : Sm) = q at hb e ⊢
    by_cases h1 : m2.length = wid m
    · rw [if_pos h1] at hb
      have : Ch (m :: m2 :: ms) ↔ Ch (m2 :: ms) := ⟨fun z => z.2, fun z => ⟨h1, z⟩⟩
      simp only [List.map_cons, zipD, forGo, gdOk, if_true, hg, Option.bind, hb]
      by_cases hc : Ch (m2 :: ms)
      · rw [if_pos hc] at e; rw [if_pos (this.mpr hc)]; exact e
      · rw [if_neg hc] at e; rw [if_neg fun z => hc (this.mp z)]; exact e
    · rw [if_neg h1] at hb
      have : ¬ Ch (m :: m2 :: ms) := fun z => h1 z.1
      simp only [List.map_cons, zipD, forGo, gdOk, if_true, hg, Option.bind, hb]
      rw [if_neg this]
end T
set_option maxRecDepth 100000
set_option maxHeartbeats 4000000
namespace T
open PySem PySem.Spec PyProof.Rows L2 Z MM
/-! ## the product of many, whole -/
def ChF (c : Nat) : List (List (List Int)) → Prop
  | [] => True
  | b :: r => b.length = c ∧ ChF (wid b) r
theorem ch_iff : ∀ (m : List (List Int)) (r : List (List (List Int))), Ch (m :: r) ↔ ChF (wid m) r
  | _, [] => Iff.rfl
  | m, b :: r => by
    show b.length = wid m ∧ Ch (b :: r) ↔ b.length = wid m ∧ ChF (wid b) r
    rw [ch_iff b r]
def foldP (w : Nat) (m : List (List Int)) (r : List (List (List Int))) : List (List Int) := r.foldl (pm w) m
def AllM (w : Nat) (ms : List (List (List Int))) : Prop := ∀ m ∈ ms, ∃ r c, Mt w r c m
theorem Mt.self {w : Nat} {m : List (List Int)} (h : ∃ r c, Mt w r c m) : Mt w m.length (T.wid m) m := by
  obtain ⟨r, c, h⟩ := h
  rw [h.len, h.wid]
  exact h
theorem foldP_mt {w : Nat} (hw2 : w ≤ 16) : ∀ (r : List (List (List Int))) (a c : Nat) (m : List (List Int)), Mt w a c m → AllM w r → ChF c r → ∃ d, Mt w a d (foldP w m r)
  | [], _, c, _, h, _, _ => ⟨c, h⟩
  | b :: r, a, c, m, h, hr, hc => by
    have hb := Mt.self (hr b List.mem_cons_self)
    have hb : Mt w c (wid b) b := by rw [← hc.1]; exact hb
    exact foldP_mt hw2 r a (wid b) (pm w m b) (h.pm hw2 hb) (fun x hx => hr x (List.mem_cons_of_mem _ hx)) hc.2
noncomputable abbrev bodyP : Sm := (sSet 5 (eCall f_times_matrix (esCons (eVar 0) (esCons (eVar 5) (esCons (eVar 2) esNil)))))
theorem loop_prod {S : Sto} {w : Nat} (hw2 : w ≤ 16) {x1 x3 x4 : Option SV} : ∀ (r : List (List (List Int))) (a c : Nat) (m : List (List Int)) (x2 : Option SV), Mt w a c m → AllM w r → ChF c r →
    ∃ x2', forGo none (gVar 2) bodyP (r.map matD) [some (.d (.int w)), x1, x2, x3, x4, some (.d (matD m))] S = some (.nx [some (.d (.int w)), x1, x2', x3, x4, some (.d (matD (foldP w m r)))] S)
  | [], a, c, m, x2, _, _, _ => ⟨x2, by simp [forGo, gdOk, foldP]⟩
  | b :: r, a, c, m, x2, h, hr, hc => by
    have hb := Mt.self (hr b List.mem_cons_self)
    have hb : Mt w c (wid b) b := by rw [← hc.1]; exact hb
    obtain ⟨x2', e⟩ := loop_prod hw2 (x1 := x1) (x3 := x3) (x4 := x4) r a (wid b) (pm w m b) (some (.d (matD b))) (h.pm hw2 hb) (fun x hx => hr x (List.mem_cons_of_mem _ hx)) hc.2
    refine ⟨x2', ?_⟩
    have e2 := p_times_matrix (S := S) hw2 h hb
    have eb : bodyP [some (.d (.int w)), x1, some (.d (matD b)), x3, x4, some (.d (matD m))] S = some (.nx [some (.d (.int w)), x1, some (.d (matD b)), x3, x4, some (.d (matD (pm w m b)))] S) := by simp [bodyP, e2]
    have hg : gVar 2 (matD b) [some (.d (.int w)), x1, x2, x3, x4, some (.d (matD m))] = some [some (.d (.int w)), x1, some (.d (matD b)), x3, x4, some (.d (matD m))] := rfl
    generalize hq : (bodyP : Sm) = q at eb e ⊢
    simp only [List.map_cons, forGo, gdOk, if_true, hg, Option.bind, eb]
    exact e
theorem dats_map : ∀ ds : List PyData, dats (ds.map SV.d) = some ds
  | [] => rfl
  | d :: ds => by
    have := dats_map ds
    simp only [List.map_cons, dats, this]
    rfl
theorem cut_from (ds : List PyData) (k : Nat) (hk : k ≤ ds.length) : Z.cutD ds (some (k : Int)) none = ds.drop k := by
  unfold Z.cutD
  rw [HT.sIx_nat, HT.sIx_none, Nat.min_eq_left hk, List.take_of_length_le (by simp)]
theorem cut_to (ds : List PyData) (k : Nat) (hk : k ≤ ds.length) : Z.cutD ds none (some (k : Int)) = ds.take k := by
  unfold Z.cutD
  rw [HT.sIx_nat, HT.sIx_none, Nat.min_eq_left hk, List.drop_zero, Nat.sub_zero]
theorem cut1 (d : PyData) (ds : List PyData) : Z.cutD (d :: ds) (some 1) none = ds := cut_from (d :: ds) 1 (by simp)
/-- the product of a list of values -/
theorem p_product {S : Sto} {w b dep sz : Nat} (hw : 1 ≤ w) (hw2 : w ≤ 16) (h2 : sz ≤ 16777216) (ds : List PyData) (hz : ∀ d ∈ ds, Sz b dep sz d) (hl : ds.length ≤ 1000) :
    (∃ m r, ds = (m :: r).map matD ∧ AllM w (m :: r) ∧ ChF (wid m) r ∧ f_matrix_product (.d (.int w) :: ds.map .d) S = some (.ok (.d (matD (foldP w m r))) S)) ∨
    ((∀ m r, ds = (m :: r).map matD → AllM w (m :: r) → ¬ ChF (wid m) r) ∧ f_matrix_product (.d (.int w) :: ds.map .d) S = some (.exc xM S)) := by
  have hdl : ds.length ≤ sizeLine := sz_le (by omega)
  have hd := dats_map ds
  obtain ⟨y2, en⟩ := loop_need (S := S) hw2 h2 (x1 := some (.d (.tuple ds))) (x3 := none) (x4 := none) (x5 := none) ds none hz
  have run : ∀ r : Z.Flow, m_matrix_product [some (.d (.int w)), some (.d (.tuple ds)), none, none, none, none] S = some r →
      f_matrix_product (.d (.int w) :: ds.map .d) S = fnRun 4 m_matrix_product [.d (.int w), .d (.tuple ds)] S := fun r _ => by
    simp [f_matrix_product, hd, hdl]
  cases ds with
  | nil =>
    refine .inr ⟨(fun m r e => by cases e), ?_⟩
    have hm : m_matrix_product [some (.d (.int w)), some (.d (.tuple [])), none, none, none, none] S = some (.exc xM S) := by
      simp [m_matrix_product, p_ok_width hw hw2, truD]
    rw [run _ hm]
    simp [hm]
  | cons d rest =>
    cases ha : (d :: rest).all (anyMat w) with
    | false =>
      refine .inr ⟨fun m r e hM => ?_, ?_⟩
      · have : ((m :: r).map matD).all (anyMat w) = true := by
          rw [List.all_eq_true]
          intro x hx
          obtain ⟨y, hy, rfl⟩ := List.mem_map.mp hx
          obtain ⟨r', c', h⟩ := hM y hy
          exact h.any
        rw [← e, ha] at this
        cases this
      · rw [ha] at en
        simp only [Bool.false_eq_true, if_false] at en
        have hm : m_matrix_product [some (.d (.int w)), some (.d (.tuple (d :: rest))), none, none, none, none] S = some (.exc xM S) := by
          unfold m_matrix_product
          simp only [bodyN] at en
          simp [p_ok_width hw hw2, truD, en]
        rw [run _ hm]
        simp [hm]
    | true =>
      obtain ⟨m, r, e, hM⟩ : ∃ m r, d :: rest = (m :: r).map matD ∧ AllM w (m :: r) := by
        have : ∀ l : List PyData, l.all (anyMat w) = true → ∃ ms : List (List (List Int)), l = ms.map matD ∧ AllM w ms := by
          intro l
          induction l with
          | nil => exact fun _ => ⟨[], rfl, fun _ h => nomatch h⟩
          | cons x l ih =>
            intro h
            simp only [List.all_cons, Bool.and_eq_true] at h
            obtain ⟨m, r, c, rfl, hm⟩ := anyMat_of h.1
            obtain ⟨ms, rfl, h2⟩ := ih h.2
            exact ⟨m :: ms, rfl, fun y hy => (List.mem_cons.mp hy).elim (fun e => e ▸ ⟨r, c, hm⟩) (h2 y)⟩
        obtain ⟨ms, e, h⟩ := this _ ha
        cases ms with
        | nil => cases e
        | cons m r => exact ⟨m, r, e, h⟩
      rw [ha] at en
      simp only [if_true] at en
      have hne : ∀ y ∈ m :: r, y ≠ [] := fun y hy z => by
        obtain ⟨r', c', h⟩ := hM y hy
        have h1 := h.len
        have h2 := h.r1
        rw [z] at h1
        simp at h1
        omega
      obtain ⟨y3, y4, ec⟩ := loop_ch (S := S) (w := w) (x1 := some (.d (.tuple (d :: rest)))) (x2 := y2) (x5 := none) m r none none hne
      have hr : rest = r.map matD := by
        simp only [List.map_cons, List.cons.injEq] at e; exact e.2
      have hd0 : d = matD m := by
        simp only [List.map_cons, List.cons.injEq] at e; exact e.1
      rw [← e, ← hr] at ec
      have hsl : (eSl (eVar 1) (poS (eLit (.int 1))) poN) [some (.d (.int w)), some (.d (.tuple (d :: rest))), y2, none, none, none] S = some (.ok (.d (.tuple rest)) S) := by
        have := cut1 d rest
        simp [this]
      by_cases hc : Ch (m :: r)
      · refine .inl ⟨m, r, e, hM, (ch_iff m r).mp hc, ?_⟩
        rw [if_pos hc] at ec
        obtain ⟨y5, ep⟩ := loop_prod (S := S) hw2 (x1 := some (.d (.tuple (d :: rest)))) (x3 := y3) (x4 := y4) r m.length (wid m) m y2 (Mt.self (hM m List.mem_cons_self)) (fun x hx => hM x (List.mem_cons_of_mem _ hx)) ((ch_iff m r).mp hc)
        rw [← hr] at ep
        have hm : m_matrix_product [some (.d (.int w)), some (.d (.tuple (d :: rest))), none, none, none, none] S = some (.rt (.d (matD (foldP w m r))) S) := by
          unfold m_matrix_product
          simp only [bodyN] at en
          simp only [bodyC] at ec
          simp only [bodyP] at ep
          rw [seq_nx (σ' := [some (.d (.int w)), some (.d (.tuple (d :: rest))), none, none, none, none]) (S' := S) (by simp [p_ok_width hw hw2])]
          rw [seq_nx (σ' := [some (.d (.int w)), some (.d (.tuple (d :: rest))), none, none, none, none]) (S' := S) (by simp [truD])]
          rw [seq_nx (σ' := [some (.d (.int w)), some (.d (.tuple (d :: rest))), y2, none, none, none]) (S' := S) (by simp [en])]
          rw [seq_nx (σ' := [some (.d (.int w)), some (.d (.tuple (d :: rest))), y2, y3, y4, none]) (S' := S) (by
            have := cut1 d rest
            simp [this, ec])]
          rw [seq_nx (σ' := [some (.d (.int w)), some (.d (.tuple (d :: rest))), y2, y3, y4, some (.d (matD m))]) (S' := S) (by simp [atI, ixN, hd0])]
          rw [seq_nx (σ' := [some (.d (.int w)), some (.d (.tuple (d :: rest))), y5, y3, y4, some (.d (matD (foldP w m r)))]) (S' := S) (by
            have := cut1 d rest
            simp [this, ep])]
          simp
        rw [run _ hm]
        simp [hm]
      · refine .inr ⟨fun m' r' e' hM' => ?_, ?_⟩
        · have inj : ∀ (a b : List (List (List Int))), a.map matD = b.map matD → a = b := by
            have i0 : ∀ (a b : List (List Int)), matD a = matD b → a = b := by
              have i1 : ∀ (a b : List Int), tupI a = tupI b → a = b := by
                intro a
                induction a with
                | nil => intro b h; cases b with
                  | nil => rfl
                  | cons => simp [tupI] at h
                | cons x a ih => intro b h; cases b with
                  | nil => simp [tupI] at h
                  | cons y b =>
                    simp only [tupI, List.map_cons, PyData.tuple.injEq, List.cons.injEq, PyData.int.injEq] at h
                    rw [h.1, ih b (by simp only [tupI, PyData.tuple.injEq]; exact h.2)]
              intro a
              induction a with
              | nil => intro b h; cases b with
                | nil => rfl
                | cons => simp [matD] at h
              | cons x a ih => intro b h; cases b with
                | nil => simp [matD] at h
                | cons y b =>
                  simp only [matD, List.map_cons, PyData.tuple.injEq, List.cons.injEq] at h
                  rw [i1 x y h.1, ih b (by simp only [matD, PyData.tuple.injEq]; exact h.2)]
            intro a
            induction a with
            | nil => intro b h; cases b with
              | nil => rfl
              | cons => simp at h
            | cons x a ih => intro b h; cases b with
              | nil => simp at h
              | cons y b =>
                simp only [List.map_cons, List.cons.injEq] at h
                rw [i0 x y h.1, ih b h.2]
          have := inj _ _ (e.symm.trans e')
          cases this
          exact fun z => hc ((ch_iff m r).mpr z)
        · rw [if_neg hc] at ec
          have hm : m_matrix_product [some (.d (.int w)), some (.d (.tuple (d :: rest))), none, none, none, none] S = some (.exc xM S) := by
            unfold m_matrix_product
            simp only [bodyN] at en
            simp only [bodyC] at ec
            rw [seq_nx (σ' := [some (.d (.int w)), some (.d (.tuple (d :: rest))), none, none, none, none]) (S' := S) (by simp [p_ok_width hw hw2])]
            rw [seq_nx (σ' := [some (.d (.int w)), some (.d (.tuple (d :: rest))), none, none, none, none]) (S' := S) (by simp [truD])]
            rw [seq_nx (σ' := [some (.d (.int w)), some (.d (.tuple (d :: rest))), y2, none, none, none]) (S' := S) (by simp [en])]
            have := cut1 d rest
            simp [this, ec]
          rw [run _ hm]
          simp [hm]
end T
set_option maxRecDepth 100000
set_option maxHeartbeats 4000000
namespace T
open PySem PySem.Spec PyProof.Rows L2 Z MM
/-! ## however it is put together -/
theorem AllM.tl {w : Nat} {m : List (List Int)} {r : List (List (List Int))} (h : AllM w (m :: r)) : AllM w r := fun x hx => h x (List.mem_cons_of_mem _ hx)
theorem pm_foldP {w : Nat} (hw2 : w ≤ 16) (x : List (List Int)) : ∀ (r : List (List (List Int))) (a c : Nat) (b : List (List Int)), Mt w a c b → AllM w r → ChF c r → pm w x (foldP w b r) = foldP w (pm w x b) r
  | [], _, _, _, _, _, _ => rfl
  | y :: r, a, c, b, hb, hr, hc => by
    have hy := Mt.self (hr y List.mem_cons_self)
    have hy : Mt w c (wid y) y := by rw [← hc.1]; exact hy
    show pm w x (foldP w (pm w b y) r) = foldP w (pm w (pm w x b) y) r
    rw [pm_foldP hw2 x r a (wid y) (pm w b y) (hb.pm hw2 hy) hr.tl hc.2, pm_assoc hb hy]
theorem foldP_app {w : Nat} (hw2 : w ≤ 16) (m : List (List Int)) (r1 : List (List (List Int))) (b : List (List Int)) (r2 : List (List (List Int))) (hb : ∃ a c, Mt w a c b) (hr : AllM w r2) (hc : ChF (wid b) r2) :
    foldP w m (r1 ++ b :: r2) = pm w (foldP w m r1) (foldP w b r2) := by
  rw [pm_foldP hw2 _ r2 b.length (wid b) b (Mt.self hb) hr hc]
  simp [foldP, List.foldl_append]
def foldV (w : Nat) (ms : List (List (List Int))) (v : List Int) : List Int := ms.foldr (fun m acc => mv w m acc) v
def lastW (c : Nat) : List (List (List Int)) → Nat
  | [] => c
  | b :: r => lastW (wid b) r
theorem foldV_len {w : Nat} {v : List Int} : ∀ (r : List (List (List Int))) (c : Nat), ChF c r → v.length = lastW c r → (foldV w r v).length = c
  | [], _, _, h => h
  | b :: r, c, hc, h => by
    show (mv w b _).length = c
    rw [mv_len, hc.1]
theorem foldV_words {w : Nat} (hw2 : w ≤ 16) {v : List Int} (hv : wordsW w v) : ∀ (r : List (List (List Int))), wordsW w (foldV w r v)
  | [] => hv
  | b :: r => mv_words hw2
theorem mv_foldP {w : Nat} (hw2 : w ≤ 16) {v : List Int} : ∀ (r : List (List (List Int))) (a c : Nat) (m : List (List Int)), Mt w a c m → AllM w r → ChF c r → v.length = lastW c r → mv w (foldP w m r) v = mv w m (foldV w r v)
  | [], _, _, _, _, _, _, _ => rfl
  | b :: r, a, c, m, hm, hr, hc, hv => by
    have hb := Mt.self (hr b List.mem_cons_self)
    have hb : Mt w c (wid b) b := by rw [← hc.1]; exact hb
    show mv w (foldP w (pm w m b) r) v = mv w m (mv w b (foldV w r v))
    rw [mv_foldP hw2 r a (wid b) (pm w m b) (hm.pm hw2 hb) hr.tl hc.2 hv, mv_pm hm hb (foldV_len r (wid b) hc.2 hv)]
theorem foldP_wid {w : Nat} (hw2 : w ≤ 16) : ∀ (r : List (List (List Int))) (a c : Nat) (m : List (List Int)), Mt w a c m → AllM w r → ChF c r → Mt w a (lastW c r) (foldP w m r)
  | [], _, _, _, h, _, _ => h
  | b :: r, a, c, m, h, hr, hc => by
    have hb := Mt.self (hr b List.mem_cons_self)
    have hb : Mt w c (wid b) b := by rw [← hc.1]; exact hb
    exact foldP_wid hw2 r a (wid b) (pm w m b) (h.pm hw2 hb) hr.tl hc.2
/-! ## a matrix times a vector, by the program -/
theorem ix0 (m : List (List Int)) {S : Sto} (h : m ≠ []) : pIx (.d (matD m)) (.d (.int 0)) S = some (.d (tupI (m.headD []))) := by
  cases m with
  | nil => exact absurd rfl h
  | cons x xs => simp [matD, atI, ixN]
theorem Mt.ne {w r c : Nat} {m : List (List Int)} (h : Mt w r c m) : m ≠ [] := fun z => by
  have h1 := h.len
  have h2 := h.r1
  rw [z] at h1
  simp at h1
  omega
theorem p_len0 {S : Sto} {w r c : Nat} {m : List (List Int)} (h : Mt w r c m) {σ : Sg} {i : Nat} (hσ : σ[i]? = some (some (.d (matD m)))) : (eCa pLen (esCons (eBin pIx (eVar i) (eLit (.int 0))) esNil)) σ S = some (.ok (.d (.int c)) S) := by
  have h1 := h.wid
  have := ix0 m (S := S) h.ne
  cases m with
  | nil => exact absurd rfl h.ne
  | cons x xs =>
    have hx : x.length = c := h1
    simp [hσ, matD, tupI, atI, ixN, hx]
theorem p_mtimes_ok {S : Sto} {w r c : Nat} {m : List (List Int)} {v : List Int} (hw : 1 ≤ w) (hw2 : w ≤ 16) (h : Mt w r c m) (hl : v.length = c) (hv : wordsW w v) : f_matrix_times [.d (.int w), .d (matD m), .d (tupI v)] S = some (.ok (.d (tupI (mv w m v))) S) := by
  have hr := h.r1
  have hc := h.c1
  have hml := h.len
  have e1 := p_ok_matrix (S := S) hw2 (h.sz hw2) (by omega) h.any
  have e2 := p_ok_vector (S := S) (n := c) hw2 (Sz.zs (vec_sz hw2 hc.2 hl hv) (by omega)) (vec_is hl hv)
  have e3 := p_times_vector (S := S) (C := matD m) hw2 (.inl rfl) (by omega) (fun x hx => ⟨by have := (h.rows x hx).1; omega, (h.rows x hx).2⟩) hv
  have e4 := p_len0 (S := S) h (σ := [some (.d (.int w)), some (.d (matD m)), some (.d (tupI v))]) (i := 1) rfl
  have hm : m_matrix_times [some (.d (.int w)), some (.d (matD m)), some (.d (tupI v))] S = some (.rt (.d (tupI (mv w m v))) S) := by
    unfold m_matrix_times
    generalize hq : (eCa pLen (esCons (eBin pIx (eVar 1) (eLit (.int 0))) esNil)) = q at e4 ⊢
    simp [p_ok_width hw hw2, e1, e2, e3, e4]
  simp [f_matrix_times, hm]
theorem p_mtimes_m {S : Sto} {w b dep sz : Nat} {x v : PyData} (hw : 1 ≤ w) (hw2 : w ≤ 16) (h : Sz b dep sz x) (h2 : sz ≤ 16777216) (ha : anyMat w x = false) : f_matrix_times [.d (.int w), .d x, .d v] S = some (.exc xM S) := by
  have e1 := p_bad_matrix (S := S) hw2 h h2 ha
  simp [f_matrix_times, m_matrix_times, p_ok_width hw hw2, e1]
theorem p_mtimes_v {S : Sto} {w r c : Nat} {m : List (List Int)} {v : PyData} (hw : 1 ≤ w) (hw2 : w ≤ 16) (h : Mt w r c m) (hz : ∀ ds, v = .tuple ds → ds.length ≤ sizeLine) (hv : isVec w c v = false) : f_matrix_times [.d (.int w), .d (matD m), .d v] S = some (.exc xV S) := by
  have hc := h.c1
  have e1 := p_ok_matrix (S := S) hw2 (h.sz hw2) (by omega) h.any
  have e2 := p_bad_vector (S := S) (n := c) hw2 (by omega) hz hv
  have e4 := p_len0 (S := S) h (σ := [some (.d (.int w)), some (.d (matD m)), some (.d v)]) (i := 1) rfl
  have hm : m_matrix_times [some (.d (.int w)), some (.d (matD m)), some (.d v)] S = some (.exc xV S) := by
    unfold m_matrix_times
    generalize hq : (eCa pLen (esCons (eBin pIx (eVar 1) (eLit (.int 0))) esNil)) = q at e4 ⊢
    simp [p_ok_width hw hw2, e1, e2, e4]
  simp [f_matrix_times, hm]
theorem p_mtimes_w {S : Sto} {o x v : PyData} (ho : inWidth o = false) : f_matrix_times [.d o, .d x, .d v] S = some (.exc xW S) := by
  simp [f_matrix_times, m_matrix_times, p_bad_width ho]
theorem p_product_w {S : Sto} {o : PyData} (ho : inWidth o = false) : f_matrix_product [.d o] S = some (.exc xW S) := by
  simp [f_matrix_product, m_matrix_product, p_bad_width ho]
/-- .. of matrices that fit -/
theorem p_product_ok {S : Sto} {w : Nat} {m : List (List Int)} {r : List (List (List Int))} (hw : 1 ≤ w) (hw2 : w ≤ 16) (h : AllM w (m :: r)) (hc : ChF (wid m) r) (hl : r.length ≤ 99) : f_matrix_product (.d (.int w) :: ((m :: r).map matD).map .d) S = some (.ok (.d (matD (foldP w m r))) S) := by
  have hz : ∀ d ∈ (m :: r).map matD, Sz 16 2 528 d := fun d hd => by
    obtain ⟨y, hy, rfl⟩ := List.mem_map.mp hd
    obtain ⟨a, c, hy⟩ := h y hy
    exact hy.sz hw2
  rcases p_product (S := S) hw hw2 (by omega) ((m :: r).map matD) hz (by rw [List.length_map, List.length_cons]; omega) with ⟨m', r', e, _, _, h2⟩ | ⟨h1, _⟩
  · have : ∀ {a b : List (List (List Int))}, AllM w a → a.map matD = b.map matD → a.length = b.length := fun _ z => by simpa using congrArg List.length z
    have inj : ∀ (a b : List (List (List Int))), a.map matD = b.map matD → a = b := by
      have i1 : ∀ (a b : List Int), tupI a = tupI b → a = b := fun a b h => by
        simp only [tupI, PyData.tuple.injEq] at h
        exact List.map_inj_right (fun x y z => by cases z; rfl) |>.mp h
      have i0 : ∀ (a b : List (List Int)), matD a = matD b → a = b := fun a b h => by
        simp only [matD, PyData.tuple.injEq] at h
        exact List.map_inj_right (fun x y z => i1 x y z) |>.mp h
      intro a b h
      exact List.map_inj_right (fun x y z => i0 x y z) |>.mp h
    have := inj _ _ e
    cases this
    exact h2
  · exact absurd hc (h1 m r rfl h)
end T
set_option maxRecDepth 100000
set_option maxHeartbeats 4000000
namespace T
open PySem PySem.Spec PyProof.Rows L2 Z MM
theorem lays_ints : ∀ ns : List Int, PyData.canLayAll0 (ns.map .int) = true ∧ PyData.depthAll (ns.map .int) = 0
  | [] => ⟨by simp [PyData.canLayAll0], by simp [PyData.depthAll]⟩
  | n :: ns => by
    obtain ⟨h1, h2⟩ := lays_ints ns
    exact ⟨by simp [PyData.canLayAll0, PyData.canLay0, h1], by simp [PyData.depthAll, PyData.depth, h2]⟩
theorem lays_rows : ∀ m : List (List Int), PyData.canLayAll0 (m.map tupI) = true ∧ PyData.depthAll (m.map tupI) ≤ 1 ∧ PyData.hasDictAll (m.map tupI) = false
  | [] => ⟨by simp [PyData.canLayAll0], by simp [PyData.depthAll], by simp [PyData.hasDictAll]⟩
  | x :: m => by
    obtain ⟨h1, h2, h3⟩ := lays_rows m
    obtain ⟨g1, g2⟩ := lays_ints x
    have g3 : PyData.hasDictAll (x.map PyData.int) = false := by
      clear h1 h2 h3 g1 g2
      induction x with
      | nil => simp [PyData.hasDictAll]
      | cons n x ih => simp [PyData.hasDictAll, PyData.hasDict, ih]
    exact ⟨by simp [PyData.canLayAll0, PyData.canLay0, tupI, g1, h1], by
      have h4 : PyData.depth (tupI x) ≤ 1 := by simp [tupI, PyData.depth, g2]
      simp only [List.map_cons, PyData.depthAll]
      omega, by simp [PyData.hasDictAll, PyData.hasDict, tupI, g3]; exact h3⟩
theorem okD_mat (m : List (List Int)) : okD (matD m) = true := by
  obtain ⟨h1, h2, _⟩ := lays_rows m
  unfold okD SeqAt.shaped matD
  simp [PyData.canLay0, PyData.depth, h1]
  omega
theorem eqv_mat (m : List (List Int)) : PyData.eqv (matD m) (matD m) = true := eqv_self _ (by
  obtain ⟨_, _, h⟩ := lays_rows m
  simp [matD, PyData.hasDict, h])
theorem eqv_vec (v : List Int) : PyData.eqv (tupI v) (tupI v) = true := by
  refine eqv_self _ ?_
  have : ∀ x : List Int, PyData.hasDictAll (x.map PyData.int) = false := fun x => by
    induction x with
    | nil => simp [PyData.hasDictAll]
    | cons n x ih => simp [PyData.hasDictAll, PyData.hasDict, ih]
  simp [tupI, PyData.hasDict, this]
/-! ## the law's product of one to four -/
theorem l_multiplied {S : Sto} {w : Nat} {m : List (List Int)} {r : List (List (List Int))} (hw : 1 ≤ w) (hw2 : w ≤ 16) (h : AllM w (m :: r)) (hc : ChF (wid m) r) (hl : r.length ≤ 3) : f__law_multiplied [.d (.int w), .d (.list ((m :: r).map matD))] S = some (.ok (.d (matD (foldP w m r))) S) := by
  have e := p_product_ok (S := S) hw hw2 h hc (by omega)
  generalize foldP w m r = P at e
  match r, hl with
  | [], _ =>
    simp only [List.map_cons, List.map_nil] at e
    simp [f__law_multiplied, m__law_multiplied, atI, ixN, e, okD_int, PyData.eqv]
  | [a], _ =>
    simp only [List.map_cons, List.map_nil] at e
    simp [f__law_multiplied, m__law_multiplied, atI, ixN, e, okD_int, PyData.eqv]
  | [a, b], _ =>
    simp only [List.map_cons, List.map_nil] at e
    simp [f__law_multiplied, m__law_multiplied, atI, ixN, e, okD_int, PyData.eqv]
  | [a, b, c], _ =>
    simp only [List.map_cons, List.map_nil] at e
    simp [f__law_multiplied, m__law_multiplied, atI, ixN, e, okD_int, PyData.eqv]
  | _ :: _ :: _ :: _ :: _, hl => simp at hl
/-! ## the loops of the law -/
noncomputable abbrev bodyA : Sm := (sSet 3 (eCall f__law_product (esCons (eVar 0) (esCons (eVar 3) (esCons (eVar 5) esNil)))))
theorem loop_A {S : Sto} {w : Nat} (hw2 : w ≤ 16) {x1 x2 x4 x6 x7 x8 : Option SV} : ∀ (r : List (List (List Int))) (a c : Nat) (m : List (List Int)) (x5 : Option SV), Mt w a c m → AllM w r → ChF c r →
    ∃ x5', forGo none (gVar 5) bodyA (r.map matD) [some (.d (.int w)), x1, x2, some (.d (matD m)), x4, x5, x6, x7, x8] S = some (.nx [some (.d (.int w)), x1, x2, some (.d (matD (foldP w m r))), x4, x5', x6, x7, x8] S)
  | [], a, c, m, x5, _, _, _ => ⟨x5, by simp [forGo, gdOk, foldP]⟩
  | b :: r, a, c, m, x5, h, hr, hc => by
    have hb := Mt.self (hr b List.mem_cons_self)
    have hb : Mt w c (wid b) b := by rw [← hc.1]; exact hb
    obtain ⟨x5', e⟩ := loop_A (S := S) hw2 (x1 := x1) (x2 := x2) (x4 := x4) (x6 := x6) (x7 := x7) (x8 := x8) r a (wid b) (pm w m b) (some (.d (matD b))) (h.pm hw2 hb) hr.tl hc.2
    refine ⟨x5', ?_⟩
    have e2 := l_product (S := S) hw2 h hb
    have eb : bodyA [some (.d (.int w)), x1, x2, some (.d (matD m)), x4, some (.d (matD b)), x6, x7, x8] S = some (.nx [some (.d (.int w)), x1, x2, some (.d (matD (pm w m b))), x4, some (.d (matD b)), x6, x7, x8] S) := by simp [bodyA, e2]
    have hg : gVar 5 (matD b) [some (.d (.int w)), x1, x2, some (.d (matD m)), x4, x5, x6, x7, x8] = some [some (.d (.int w)), x1, x2, some (.d (matD m)), x4, some (.d (matD b)), x6, x7, x8] := rfl
    generalize hq : (bodyA : Sm) = q at eb e ⊢
    simp only [List.map_cons, forGo, gdOk, if_true, hg, Option.bind, eb]
    exact e
noncomputable abbrev bodyB : Sm := (sSet 4 (eCall f_matrix_times (esCons (eVar 0) (esCons (eVar 5) (esCons (eVar 4) esNil)))))
theorem loop_B {S : Sto} {w : Nat} (hw : 1 ≤ w) (hw2 : w ≤ 16) {x1 x2 x3 x6 x7 x8 : Option SV} {v : List Int} (hv : wordsW w v) : ∀ (ms : List (List (List Int))) (c : Nat), AllM w ms → ChF c ms → v.length = lastW c ms → ∀ (rest : List PyData) (x5 : Option SV),
    ∃ x5', forGo none (gVar 5) bodyB ((ms.map matD).reverse ++ rest) [some (.d (.int w)), x1, x2, x3, some (.d (tupI v)), x5, x6, x7, x8] S = forGo none (gVar 5) bodyB rest [some (.d (.int w)), x1, x2, x3, some (.d (tupI (foldV w ms v))), x5', x6, x7, x8] S
  | [], c, _, _, _, rest, x5 => ⟨x5, rfl⟩
  | m :: r, c, h, hc, hl, rest, x5 => by
    have hm := Mt.self (h m List.mem_cons_self)
    obtain ⟨x5', e⟩ := loop_B (S := S) hw hw2 (x1 := x1) (x2 := x2) (x3 := x3) (x6 := x6) (x7 := x7) (x8 := x8) hv r (wid m) h.tl hc.2 hl (matD m :: rest) x5
    have e2 := p_mtimes_ok (S := S) hw hw2 hm (foldV_len r (wid m) hc.2 hl) (foldV_words hw2 hv r)
    have eb : bodyB [some (.d (.int w)), x1, x2, x3, some (.d (tupI (foldV w r v))), some (.d (matD m)), x6, x7, x8] S = some (.nx [some (.d (.int w)), x1, x2, x3, some (.d (tupI (foldV w (m :: r) v))), some (.d (matD m)), x6, x7, x8] S) := by
      show _ = some (Z.Flow.nx [some (.d (.int w)), x1, x2, x3, some (.d (tupI (mv w m (foldV w r v)))), some (.d (matD m)), x6, x7, x8] S)
      simp [bodyB, e2]
    have hg : gVar 5 (matD m) [some (.d (.int w)), x1, x2, x3, some (.d (tupI (foldV w r v))), x5', x6, x7, x8] = some [some (.d (.int w)), x1, x2, x3, some (.d (tupI (foldV w r v))), some (.d (matD m)), x6, x7, x8] := rfl
    refine ⟨some (.d (matD m)), ?_⟩
    rw [List.map_cons, List.reverse_cons, List.append_assoc, List.singleton_append, e]
    generalize hq : (bodyB : Sm) = q at eb ⊢
    simp only [forGo, gdOk, if_true, hg, Option.bind, eb]
theorem chF_split : ∀ (r1 : List (List (List Int))) (c : Nat) (b : List (List Int)) (r2 : List (List (List Int))), ChF c (r1 ++ b :: r2) → ChF c r1 ∧ b.length = lastW c r1 ∧ ChF (wid b) r2
  | [], _, _, _, h => ⟨trivial, h.1, h.2⟩
  | y :: r1, c, b, r2, h => by
    obtain ⟨h1, h2, h3⟩ := chF_split r1 (wid y) b r2 h.2
    exact ⟨⟨h.1, h1⟩, h2, h3⟩
noncomputable abbrev bodyK : Sm := (sSeq (sSet 8 (eCa dispL (esCons (eCall f__law_multiplied (esCons (eVar 0) (esCons (eSl (eVar 1) poN (poS (eVar 7))) esNil))) (esCons (eCall f__law_multiplied (esCons (eVar 0) (esCons (eSl (eVar 1) (poS (eVar 7)) poN) esNil))) esNil))))
    (sIf (tVal (eBin pNe (eCall f_matrix_product (esCons (eVar 0) (esCons (eBin pIx (eVar 8) (eLit (.int 0))) (esCons (eBin pIx (eVar 8) (eLit (.int 1))) esNil)))) (eVar 3))) (sRet (eLit (.bool false))) sNil))
theorem body_K {S : Sto} {w k : Nat} (hw : 1 ≤ w) (hw2 : w ≤ 16) {x2 x4 x5 x6 x8 : Option SV} {m : List (List Int)} {r : List (List (List Int))} (h : AllM w (m :: r)) (hc : ChF (wid m) r) (hl : r.length ≤ 3) (hk : k < r.length) :
    ∃ y8, bodyK [some (.d (.int w)), some (.d (.list ((m :: r).map matD))), x2, some (.d (matD (foldP w m r))), x4, x5, x6, some (.d (.int (k + 1 : Nat))), x8] S = some (.nx [some (.d (.int w)), some (.d (.list ((m :: r).map matD))), x2, some (.d (matD (foldP w m r))), x4, x5, x6, some (.d (.int (k + 1 : Nat))), y8] S) := by
  obtain ⟨r1, b, r2, er, l1⟩ : ∃ r1 b r2, r = r1 ++ b :: r2 ∧ r1.length = k := ⟨r.take k, r[k], r.drop (k + 1), by rw [← List.drop_eq_getElem_cons hk, List.take_append_drop], by simp; omega⟩
  subst er
  have ht : Z.cutD ((m :: (r1 ++ b :: r2)).map matD) none (some ((k + 1 : Nat) : Int)) = (m :: r1).map matD := by
    rw [cut_to _ _ (by simp; omega), ← List.map_take]
    congr 1
    rw [List.take_succ_cons, List.take_left' l1]
  have hd : Z.cutD ((m :: (r1 ++ b :: r2)).map matD) (some ((k + 1 : Nat) : Int)) none = (b :: r2).map matD := by
    rw [cut_from _ _ (by simp; omega), ← List.map_drop]
    congr 1
    rw [List.drop_succ_cons, List.drop_left' l1]
  obtain ⟨c1, c2, c3⟩ := chF_split r1 (wid m) b r2 hc
  have hM1 : AllM w (m :: r1) := fun x hx => h x (by rcases List.mem_cons.mp hx with rfl | hx <;> simp_all)
  have hM2 : AllM w (b :: r2) := fun x hx => h x (by simp only [List.mem_cons, List.mem_append] at hx ⊢; exact .inr (.inr hx))
  have ll : r1.length + r2.length + 1 ≤ 3 := by simp at hl; omega
  have e1 := l_multiplied (S := S) hw hw2 hM1 c1 (by omega)
  have e2 := l_multiplied (S := S) hw hw2 hM2 c3 (by omega)
  have P1 := foldP_wid hw2 r1 m.length (wid m) m (Mt.self (h m List.mem_cons_self)) hM1.tl c1
  have P2 := foldP_wid hw2 r2 b.length (wid b) b (Mt.self (hM2 b List.mem_cons_self)) hM2.tl c3
  have e3 := p_product_ok (S := S) (m := foldP w m r1) (r := [foldP w b r2]) hw hw2 (fun x hx => by
    rcases List.mem_cons.mp hx with rfl | hx
    · exact ⟨_, _, P1⟩
    · rw [List.mem_singleton.mp hx]; exact ⟨_, _, P2⟩) ⟨by rw [P2.len, P1.wid, c2], trivial⟩ (by simp)
  have e4 : foldP w (foldP w m r1) [foldP w b r2] = foldP w m (r1 ++ b :: r2) := (foldP_app hw2 m r1 b r2 (hM2 b List.mem_cons_self) hM2.tl c3).symm
  rw [e4] at e3
  refine ⟨some (.d (.list [matD (foldP w m r1), matD (foldP w b r2)])), ?_⟩
  have ok := okD_mat (foldP w m (r1 ++ b :: r2))
  have eq := eqv_mat (foldP w m (r1 ++ b :: r2))
  generalize foldP w m (r1 ++ b :: r2) = P at e3 ok eq ⊢
  generalize foldP w m r1 = Q1 at e1 e3 ⊢
  generalize foldP w b r2 = Q2 at e2 e3 ⊢
  simp only [List.map_cons, List.map_nil] at e3
  obtain ⟨D, hD⟩ : ∃ D, matD P = .tuple D := ⟨_, rfl⟩
  rw [hD] at e3 ok eq ⊢
  generalize hL : (m :: (r1 ++ b :: r2)).map matD = L at ht hd ⊢
  generalize hA1 : (m :: r1).map matD = A1 at ht e1
  generalize hB1 : (b :: r2).map matD = B1 at hd e2
  have hk1 : ((k + 1 : Nat) : Int) = (k : Int) + 1 := by omega
  rw [hk1] at ht hd ⊢
  unfold bodyK
  rw [seq_nx (σ' := [some (.d (.int w)), some (.d (.list L)), x2, some (.d (.tuple D)), x4, x5, x6, some (.d (.int ((k : Int) + 1))), some (.d (.list [matD Q1, matD Q2]))]) (S' := S) (by
    simp [ht, hd, e1, e2, sz_le])]
  simp [atI, ixN, e3, ok, eq]
end T
set_option maxRecDepth 100000
set_option maxHeartbeats 4000000
namespace T
open PySem PySem.Spec PyProof.Rows L2 Z MM
theorem upTo1_get {n j : Nat} {d : PyData} (h : (Z.upTo 1 n)[j]? = some d) : j < n ∧ d = .int ((j + 1 : Nat) : Int) := by
  obtain ⟨h1, h2⟩ := upTo_get h
  refine ⟨h1, ?_⟩
  rw [h2, show (1 : Int) + (j : Int) = ((j + 1 : Nat) : Int) by omega]
theorem law_right {S : Sto} {w : Nat} {m : List (List Int)} {r : List (List (List Int))} {v : List Int} (hw : 1 ≤ w) (hw2 : w ≤ 16) (h : AllM w (m :: r)) (hc : ChF (wid m) r) (hl : r.length ≤ 3) (hv : wordsW w v) (hvl : v.length = lastW (wid m) r) :
    f__law_right [.d (.int w), .d (.list ((m :: r).map matD)), .d (tupI v)] S = some (.ok (.d (.bool true)) S) := by
  have hm := Mt.self (h m List.mem_cons_self)
  have hW := foldP_wid hw2 r m.length (wid m) m hm h.tl hc
  obtain ⟨y5, eA⟩ := loop_A (S := S) hw2 (x1 := some (.d (.list ((m :: r).map matD)))) (x2 := some (.d (tupI v))) (x4 := some (.d (tupI v))) (x6 := none) (x7 := none) (x8 := none) r m.length (wid m) m none hm h.tl hc
  have eM := l_multiplied (S := S) hw hw2 h hc hl
  have eT := p_mtimes_ok (S := S) hw hw2 hW hvl hv
  have eV : foldV w (m :: r) v = mv w (foldP w m r) v := (mv_foldP hw2 r m.length (wid m) m hm h.tl hc hvl).symm
  obtain ⟨z5, eB⟩ := loop_B (S := S) hw hw2 (x1 := some (.d (.list ((m :: r).map matD)))) (x2 := some (.d (tupI v))) (x3 := some (.d (matD (foldP w m r)))) (x6 := none) (x7 := none) (x8 := none) hv (m :: r) m.length h ⟨rfl, hc⟩ hvl [] y5
  rw [List.append_nil, eV] at eB
  have eB : forGo none (gVar 5) bodyB ((m :: r).map matD).reverse [some (.d (.int w)), some (.d (.list ((m :: r).map matD))), some (.d (tupI v)), some (.d (matD (foldP w m r))), some (.d (tupI v)), y5, none, none, none] S = some (.nx [some (.d (.int w)), some (.d (.list ((m :: r).map matD))), some (.d (tupI v)), some (.d (matD (foldP w m r))), some (.d (tupI (mv w (foldP w m r) v))), z5, none, none, none] S) := by
    rw [eB]; simp [forGo, gdOk]
  have hKb := fun (k : Nat) (x8 x4 x5 : Option SV) (hk : k < r.length) => body_K (S := S) (k := k) hw hw2 (x2 := some (.d (tupI v))) (x4 := x4) (x5 := x5) (x6 := none) (x8 := x8) h hc hl hk
  have hWR : okR (matD (foldP w m r)) := (hW.sz hw2).okR
  have hml := mv_len (w := w) (a := foldP w m r) (v := v)
  have hwl := hW.len
  have hw1 := hW.r1
  have hVR : okR (tupI (mv w (foldP w m r) v)) := (vec_sz hw2 (c := m.length) (by omega) (by rw [hml, hwl]) (mv_words hw2)).okR
  have eD := cmp_rows (g := gVar 6) (e := (eCall f__law_dot (esCons (eVar 0) (esCons (eVar 6) (esCons (eVar 2) esNil))))) (σ0 := [some (.d (.int w)), some (.d (.list ((m :: r).map matD))), some (.d (tupI v)), some (.d (matD (foldP w m r))), some (.d (tupI v)), y5, none, none, none]) (S := S) (fun x => .int (dotW w x v)) (foldP w m r) [] (by have := sz_le (n := 40) (by omega); simp; omega) fun x hx => ⟨_, rfl, by
    obtain ⟨q1, q2⟩ := hW.rows x hx
    have := law_dot (S := S) (ms := v) hw2 (ns := x) (by have := hW.c1; omega) (wshort hw2 q2)
    simp [this]⟩
  have e1 : ((foldP w m r).map fun x => PyData.int (dotW w x v)) = (mv w (foldP w m r) v).map .int := by unfold mv; rw [List.map_map]; rfl
  rw [List.nil_append, e1] at eD
  have okV := okD_tupI (mv w (foldP w m r) v)
  have eqV := eqv_vec (mv w (foldP w m r) v)
  have h62a : small62 1 := by unfold small62; omega
  have h62b : small62 ((r.length : Int) + 1) := by unfold small62; omega
  have c1 := cut1 (matD m) (r.map matD)
  have eC : ∃ z7 z8, forGo none (gVar 7) bodyK (Z.upTo 1 r.length) [some (.d (.int w)), some (.d (.list ((m :: r).map matD))), some (.d (tupI v)), some (.d (matD (foldP w m r))), some (.d (tupI (mv w (foldP w m r) v))), z5, none, none, none] S = some (.nx [some (.d (.int w)), some (.d (.list ((m :: r).map matD))), some (.d (tupI v)), some (.d (matD (foldP w m r))), some (.d (tupI (mv w (foldP w m r) v))), z5, none, z7, z8] S) := by
    obtain ⟨σ', S', e, eS, z7, z8, rfl⟩ := forGo_inv (g := gVar 7) (body := bodyK) (fun j σ T => T = S ∧ ∃ z7 z8, σ = [some (.d (.int w)), some (.d (.list ((m :: r).map matD))), some (.d (tupI v)), some (.d (matD (foldP w m r))), some (.d (tupI (mv w (foldP w m r) v))), z5, none, z7, z8]) (Z.upTo 1 r.length) 0 (by
      rintro j d σ T hd ⟨rfl, z7, z8, rfl⟩
      obtain ⟨hj, rfl⟩ := upTo1_get hd
      obtain ⟨y8, e⟩ := hKb j z8 (some (.d (tupI (mv w (foldP w m r) v)))) z5 hj
      exact ⟨_, rfl, _, _, e, rfl, _, _, rfl⟩) [some (.d (.int w)), some (.d (.list ((m :: r).map matD))), some (.d (tupI v)), some (.d (matD (foldP w m r))), some (.d (tupI (mv w (foldP w m r) v))), z5, none, none, none] S ⟨rfl, none, none, rfl⟩
    rw [eS] at e
    exact ⟨z7, z8, e⟩
  obtain ⟨z7, z8, eC⟩ := eC
  clear hKb eV e1
  generalize mv w (foldP w m r) v = V at *
  generalize hP : foldP w m r = P at *
  have hm : m__law_right [some (.d (.int w)), some (.d (.list ((m :: r).map matD))), some (.d (tupI v)), none, none, none, none, none, none] S = some (.rt (.d (.bool true)) S) := by
    simp only [bodyA] at eA
    simp only [bodyB] at eB
    simp only [bodyK] at eC
    rw [List.map_cons] at *
    unfold m__law_right
    rw [seq_nx (σ' := [some (.d (.int w)), some (.d (.list (matD m :: r.map matD))), some (.d (tupI v)), some (.d (matD m)), some (.d (tupI v)), none, none, none, none]) (S' := S) (by simp [atI, ixN])]
    rw [seq_nx (σ' := [some (.d (.int w)), some (.d (.list (matD m :: r.map matD))), some (.d (tupI v)), some (.d (matD P)), some (.d (tupI v)), y5, none, none, none]) (S' := S) (by simp [c1, eA])]
    rw [seq_nx (σ' := [some (.d (.int w)), some (.d (.list (matD m :: r.map matD))), some (.d (tupI v)), some (.d (matD P)), some (.d (tupI v)), y5, none, none, none]) (S' := S) (by simp [eM, hWR])]
    rw [seq_nx (σ' := [some (.d (.int w)), some (.d (.list (matD m :: r.map matD))), some (.d (tupI v)), some (.d (matD P)), some (.d (tupI v)), y5, none, none, none]) (S' := S) (by
      rw [show matD P = .tuple (P.map tupI) from rfl] at *
      rw [show tupI V = .tuple (V.map .int) from rfl] at *
      simp [eT, eD, hVR])]
    rw [seq_nx (σ' := [some (.d (.int w)), some (.d (.list (matD m :: r.map matD))), some (.d (tupI v)), some (.d (matD P)), some (.d (tupI V)), z5, none, none, none]) (S' := S) (by
      show Sm.bnd ((wSeq (eUn pRev (eVar 1))) _ S) (fun wk S1 => forGo wk.own (gVar 5) _ wk.ds _ S1) = _
      rw [show (wSeq (eUn pRev (eVar 1))) [some (.d (.int w)), some (.d (.list (matD m :: r.map matD))), some (.d (tupI v)), some (.d (matD P)), some (.d (tupI v)), y5, none, none, none] S = some (.ok ⟨(matD m :: r.map matD).reverse, none⟩ S) from rfl]
      exact eB)]
    rw [seq_nx (σ' := [some (.d (.int w)), some (.d (.list (matD m :: r.map matD))), some (.d (tupI v)), some (.d (matD P)), some (.d (tupI V)), z5, none, none, none]) (S' := S) (by
      rw [show tupI V = .tuple (V.map .int) from rfl] at *
      simp [eT, okV, eqV])]
    rw [seq_nx (σ' := [some (.d (.int w)), some (.d (.list (matD m :: r.map matD))), some (.d (tupI v)), some (.d (matD P)), some (.d (tupI V)), z5, none, z7, z8]) (S' := S) (by
      show Sm.bnd ((wRng2 (eLit (.int 1)) (eCa pLen (esCons (eVar 1) esNil))) _ S) (fun wk S1 => forGo wk.own (gVar 7) _ wk.ds _ S1) = _
      rw [show (wRng2 (eLit (.int 1)) (eCa pLen (esCons (eVar 1) esNil))) [some (.d (.int w)), some (.d (.list (matD m :: r.map matD))), some (.d (tupI v)), some (.d (matD P)), some (.d (tupI V)), z5, none, none, none] S = some (.ok ⟨Z.upTo 1 r.length, none⟩ S) by simp [h62a, h62b]]
      exact eC)]
    simp
  rw [List.map_cons] at hm
  simp [f__law_right, hm]
end T
set_option maxRecDepth 100000
set_option maxHeartbeats 4000000
namespace T
open PySem PySem.Spec PyProof.Rows L2 Z MM
/-! ## what a product of values comes to -/
def Fits (w : Nat) (ds : List PyData) : Prop := ∃ m r, ds = (m :: r).map matD ∧ AllM w (m :: r) ∧ ChF (wid m) r
theorem matD_inj {a b : List (List Int)} (h : matD a = matD b) : a = b := by
  have i1 : ∀ (a b : List Int), tupI a = tupI b → a = b := fun a b h => by
    simp only [tupI, PyData.tuple.injEq] at h
    exact List.map_inj_right (fun x y z => by cases z; rfl) |>.mp h
  simp only [matD, PyData.tuple.injEq] at h
  exact List.map_inj_right (fun x y z => i1 x y z) |>.mp h
theorem prod_ret {S : Sto} {w b dep sz : Nat} (hw : 1 ≤ w) (hw2 : w ≤ 16) (h2 : sz ≤ 16777216) {ds : List PyData} (hz : ∀ d ∈ ds, Sz b dep sz d) (hl : ds.length ≤ 1000) (h : Fits w ds) : ∃ v : PyData, f_matrix_product (.d (.int w) :: ds.map .d) S = some (.ok (.d v) S) := by
  rcases p_product (S := S) hw hw2 h2 ds hz hl with ⟨m, r, _, _, _, e⟩ | ⟨h1, _⟩
  · exact ⟨_, e⟩
  · obtain ⟨m, r, e, hM, hc⟩ := h
    exact absurd hc (h1 m r e hM)
theorem prod_m {S : Sto} {w b dep sz : Nat} (hw : 1 ≤ w) (hw2 : w ≤ 16) (h2 : sz ≤ 16777216) {ds : List PyData} (hz : ∀ d ∈ ds, Sz b dep sz d) (hl : ds.length ≤ 1000) (h : ¬ Fits w ds) : f_matrix_product (.d (.int w) :: ds.map .d) S = some (.exc xM S) := by
  rcases p_product (S := S) hw hw2 h2 ds hz hl with ⟨m, r, e, hM, hc, _⟩ | ⟨_, e⟩
  · exact absurd ⟨m, r, e, hM, hc⟩ h
  · exact e
theorem Fits.all {w : Nat} {ds : List PyData} (h : Fits w ds) : ∀ d ∈ ds, anyMat w d = true := fun d hd => by
  obtain ⟨m, r, e, hM, _⟩ := h
  rw [e] at hd
  obtain ⟨y, hy, rfl⟩ := List.mem_map.mp hd
  obtain ⟨a, c, hy⟩ := hM y hy
  exact hy.any
theorem fits_cons {w : Nat} {x y : List (List Int)} {ds : List PyData} (h : Fits w (matD x :: matD y :: ds)) : y.length = wid x ∧ Fits w (matD y :: ds) := by
  obtain ⟨m, r, e, hM, hc⟩ := h
  cases r with
  | nil => simp at e
  | cons z r =>
    simp only [List.map_cons, List.cons.injEq] at e
    obtain ⟨e1, e2, e3⟩ := e
    have e1 := matD_inj e1
    have e2 := matD_inj e2
    subst e1 e2
    exact ⟨hc.1, y, r, by rw [List.map_cons, e3], hM.tl, hc.2⟩
theorem fits_one {w r c : Nat} {m : List (List Int)} (h : Mt w r c m) : Fits w [matD m] := ⟨m, [], rfl, fun x hx => by rw [List.mem_singleton.mp hx]; exact ⟨r, c, h⟩, trivial⟩
theorem fits_add {w r c d : Nat} {m x : List (List Int)} {ds : List PyData} (h : Mt w r c m) (hx : Mt w c d x) (hf : Fits w (matD x :: ds)) : Fits w (matD m :: matD x :: ds) := by
  obtain ⟨y, s, e, hM, hc⟩ := hf
  simp only [List.map_cons, List.cons.injEq] at e
  have e1 := matD_inj e.1
  subst e1
  exact ⟨m, x :: s, by rw [List.map_cons, List.map_cons, e.2], fun z hz => (List.mem_cons.mp hz).elim (fun q => q ▸ ⟨r, c, h⟩) (hM z), by rw [hx.len, h.wid], hc⟩
theorem none_no {w : Nat} : anyMat w .none = false := rfl
/-! ## the unit -/
def unitM (r : Nat) : List (List Int) := (List.range r).map fun i => (List.range r).map fun j => if i = j then 1 else 0
theorem unit_mt {w r : Nat} (hw : 1 ≤ w) (hr : 1 ≤ r ∧ r ≤ 5) : Mt w r r (unitM r) := by
  have ht : (2 : Int) ≤ 2 ^ w := by
    have h1 : (2 : Nat) ^ 1 ≤ 2 ^ w := Nat.pow_le_pow_right (by omega) hw
    have h2 : ((2 ^ w : Nat) : Int) = 2 ^ w := by rw [Int.natCast_pow]; rfl
    omega
  refine ⟨by simp [unitM], fun x hx => ?_, hr, hr⟩
  obtain ⟨i, _, rfl⟩ := List.mem_map.mp hx
  refine ⟨by simp, fun n hn => ?_⟩
  obtain ⟨j, _, rfl⟩ := List.mem_map.mp hn
  split <;> omega
theorem cmp_nats {g : Tg} {e : Ex} {σ0 : Sg} {S : Sto} (f : Nat → PyData) : ∀ (l : List Nat) (acc : List PyData), acc.length + l.length ≤ sizeLine →
    (∀ k ∈ l, ∃ σ1, g (.int (k : Int)) σ0 = some σ1 ∧ e σ1 S = some (.ok (.d (f k)) S)) → cmpGo none g tTrue e σ0 (l.map fun (k : Nat) => .int (k : Int)) acc S = some (S, acc ++ l.map f)
  | [], acc, _, _ => by simp [cmpGo, gdOk]
  | x :: m, acc, hz, h => by
    obtain ⟨σ1, e1, e2⟩ := h x List.mem_cons_self
    have ih := cmp_nats f m (acc ++ [f x]) (by simp at hz ⊢; omega) fun y hy => h y (List.mem_cons_of_mem _ hy)
    have hlt : acc.length < sizeLine := by simp at hz; omega
    simp [cmpGo, gdOk, e1, e2, hlt, ih]
theorem upTo0 (n : Nat) : Z.upTo 0 n = (List.range n).map fun (k : Nat) => PyData.int (k : Int) := by
  unfold Z.upTo
  exact List.map_congr_left fun k _ => by rw [Int.zero_add]
theorem law_unit {S : Sto} {r : Nat} (hr : r ≤ 5) {m : List (List Int)} (hml : m.length = r) {x0 x1 x3 x4 x5 x6 x7 x8 x9 x10 x11 x12 x13 x14 : Option SV} :
    (sSet 10 (eCa pTupOf (esCons (eComp (wRng1 (eCa pLen (esCons (eVar 2) esNil))) (gVar 12) tTrue (eCa pTupOf (esCons (eComp (wRng1 (eCa pLen (esCons (eVar 2) esNil))) (gVar 11) tTrue (eCa pInt (esCons (eBin pEq (eVar 12) (eVar 11)) esNil)) [11]) esNil)) [12]) esNil))) [x0, x1, some (.d (matD m)), x3, x4, x5, x6, x7, x8, x9, x10, x11, x12, x13, x14] S =
      some (.nx [x0, x1, some (.d (matD m)), x3, x4, x5, x6, x7, x8, x9, some (.d (matD (unitM r))), x11, x12, x13, x14] S) := by
  have h62 : small62 (r : Int) := by unfold small62; omega
  have hz : ∀ n, n ≤ 5 → n ≤ sizeLine := fun n hn => sz_le (by omega)
  have hin : ∀ (i : Nat), cmpGo none (gVar 11) tTrue (eCa pInt (esCons (eBin pEq (eVar 12) (eVar 11)) esNil)) [x0, x1, some (.d (matD m)), x3, x4, x5, x6, x7, x8, x9, x10, none, some (.d (.int (i : Int))), x13, x14] (Z.upTo 0 r) [] S = some (S, ((List.range r).map fun j => if i = j then (1 : Int) else 0).map .int) := fun i => by
    have hc := cmp_nats (g := gVar 11) (e := (eCa pInt (esCons (eBin pEq (eVar 12) (eVar 11)) esNil))) (σ0 := [x0, x1, some (.d (matD m)), x3, x4, x5, x6, x7, x8, x9, x10, none, some (.d (.int (i : Int))), x13, x14]) (S := S) (fun j => .int (if i = j then 1 else 0)) (List.range r) [] (by have := hz r hr; simp; omega) fun j _ => ⟨_, rfl, by
      by_cases hij : i = j
      · simp [okD_int, PyData.eqv, hij]
      · have : ¬ (i : Int) = j := by omega
        simp [okD_int, PyData.eqv, hij, this]⟩
    rw [upTo0, hc, List.nil_append, List.map_map]; rfl
  have hout : cmpGo none (gVar 12) tTrue (eCa pTupOf (esCons (eComp (wRng1 (eCa pLen (esCons (eVar 2) esNil))) (gVar 11) tTrue (eCa pInt (esCons (eBin pEq (eVar 12) (eVar 11)) esNil)) [11]) esNil)) [x0, x1, some (.d (matD m)), x3, x4, x5, x6, x7, x8, x9, x10, x11, none, x13, x14] (Z.upTo 0 r) [] S = some (S, (unitM r).map tupI) := by
    have hc := cmp_nats (g := gVar 12) (e := (eCa pTupOf (esCons (eComp (wRng1 (eCa pLen (esCons (eVar 2) esNil))) (gVar 11) tTrue (eCa pInt (esCons (eBin pEq (eVar 12) (eVar 11)) esNil)) [11]) esNil))) (σ0 := [x0, x1, some (.d (matD m)), x3, x4, x5, x6, x7, x8, x9, x10, x11, none, x13, x14]) (S := S) (fun i => tupI ((List.range r).map fun j => if i = j then (1 : Int) else 0)) (List.range r) [] (by have := hz r hr; simp; omega) fun i _ => ⟨_, rfl, by
      have := hin i
      show _ = some (Res.ok (SV.d (.tuple (((List.range r).map fun j => if i = j then (1 : Int) else 0).map .int))) S)
      generalize ((List.range r).map fun j => if i = j then (1 : Int) else 0).map PyData.int = L at this ⊢
      simp only [matD] at this ⊢
      simp [hml, h62, this]⟩
    rw [upTo0, hc, List.nil_append]
    unfold unitM
    rw [List.map_map]; rfl
  show _ = some (Z.Flow.nx [x0, x1, some (.d (matD m)), x3, x4, x5, x6, x7, x8, x9, some (.d (.tuple ((unitM r).map tupI))), x11, x12, x13, x14] S)
  generalize (unitM r).map tupI = L at hout ⊢
  clear hin
  simp only [matD] at hout ⊢
  simp [hml, h62, hout]
end T
set_option maxRecDepth 100000
set_option maxHeartbeats 4000000
namespace T
open PySem PySem.Spec PyProof.Rows L2 Z MM
/-! ## the errors -/
abbrev qE : Str := lamQ (Str.ofString "_law_errors_right")
noncomputable abbrev bodyV (tp : Nat → Addr) : Sm := (sSeq (sSet 9 (eCall f__law_is_vector (esCons (eVar 1) (esCons (eCa pLen (esCons (eBin pIx (eVar 2) (eLit (.int 0))) esNil)) (esCons (eVar 8) esNil)))))
    (sSeq (sIf (tVal (eBin pNe (eHand 0 (lamQ (Str.ofString "_law_errors_right")) (tp 0) g__law_error (eCall f_matrix_times (esCons (eVar 1) (esCons (eVar 2) (esCons (eVar 8) esNil))))) (eBin pIx (eCa dispL (esCons (eLit (.str (Str.ofString "vector"))) (esCons (eLit (.str (Str.ofString "returned"))) esNil))) (eCa pInt (esCons (eVar 9) esNil))))) (sRet (eLit (.bool false))) sNil)
    (sIf (tAd (tVal (eBin pEq (eVar 6) (eLit (.str (Str.ofString "matrix"))))) (tVal (eBin pNe (eHand 0 (lamQ (Str.ofString "_law_errors_right")) (tp 0) g__law_error (eCall f_matrix_times (esCons (eVar 1) (esCons (eVar 5) (esCons (eVar 8) esNil))))) (eLit (.str (Str.ofString "matrix")))))) (sRet (eLit (.bool false))) sNil)))
def dueS (b : Bool) : Str := if b = true then Str.ofString "returned" else Str.ofString "matrix"
theorem due_ne : ¬ (Str.ofString "returned" = Str.ofString "matrix") := by decide +kernel
theorem body_v {S : Sto} {tp : Nat → Addr} {w r c b dep sz : Nat} {bent x : PyData} {m : List (List Int)} {x0 x3 x4 x7 x9 x10 x11 x12 x13 x14 : Option SV} (hT : S[0]? = some (.tab qE (tp 0))) (hw : 1 ≤ w) (hw2 : w ≤ 16) (hm : Mt w r c m) (hb : Sz b dep sz bent) (h2 : sz ≤ 16777216) (hz : ∀ ds, x = .tuple ds → ds.length ≤ sizeLine) :
    ∃ y9, bodyV tp [x0, some (.d (.int w)), some (.d (matD m)), x3, x4, some (.d bent), some (.d (.str (dueS (anyMat w bent)))), x7, some (.d x), x9, x10, x11, x12, x13, x14] S = some (.nx [x0, some (.d (.int w)), some (.d (matD m)), x3, x4, some (.d bent), some (.d (.str (dueS (anyMat w bent)))), x7, some (.d x), y9, x10, x11, x12, x13, x14] S) := by
  have e4 := fun x9 : Option SV => p_len0 (S := S) hm (σ := [x0, some (.d (.int w)), some (.d (matD m)), x3, x4, some (.d bent), some (.d (.str (dueS (anyMat w bent)))), x7, some (.d x), x9, x10, x11, x12, x13, x14]) (i := 2) rfl
  have e5 := l_is_vector (S := S) (n := c) hw2 x hz
  refine ⟨some (.d (.bool (isVec w c x))), ?_⟩
  have e6 : eHand 0 qE (tp 0) g__law_error (eCall f_matrix_times (esCons (eVar 1) (esCons (eVar 2) (esCons (eVar 8) esNil)))) [x0, some (.d (.int w)), some (.d (matD m)), x3, x4, some (.d bent), some (.d (.str (dueS (anyMat w bent)))), x7, some (.d x), some (.d (.bool (isVec w c x))), x10, x11, x12, x13, x14] S = some (.ok (.d (.str (if isVec w c x = true then Str.ofString "returned" else Str.ofString "vector"))) S) := by
    cases hx : isVec w c x with
    | true =>
      obtain ⟨ns, rfl, h1, h3⟩ := vec_of hx
      have := p_mtimes_ok (S := S) hw hw2 hm h1 h3
      exact hand_out (o := .ret) hT ⟨_, by simp only [eCall, esCons, esNil, eVar, List.getElem?_cons_zero, List.getElem?_cons_succ, Res.bnd, this]; rfl⟩
    | false =>
      have := p_mtimes_v (S := S) hw hw2 hm hz hx
      exact hand_out (o := .v) hT (by show _ = some (Res.exc xV S); simp only [eCall, esCons, esNil, eVar, List.getElem?_cons_zero, List.getElem?_cons_succ, Res.bnd, this])
  have e7 : anyMat w bent = false → eHand 0 qE (tp 0) g__law_error (eCall f_matrix_times (esCons (eVar 1) (esCons (eVar 5) (esCons (eVar 8) esNil)))) [x0, some (.d (.int w)), some (.d (matD m)), x3, x4, some (.d bent), some (.d (.str (dueS (anyMat w bent)))), x7, some (.d x), some (.d (.bool (isVec w c x))), x10, x11, x12, x13, x14] S = some (.ok (.d (.str (Str.ofString "matrix"))) S) := fun ha => by
    have := p_mtimes_m (S := S) (v := x) hw hw2 hb h2 ha
    exact hand_out (o := .m) hT (by show _ = some (Res.exc xM S); simp only [eCall, esCons, esNil, eVar, List.getElem?_cons_zero, List.getElem?_cons_succ, Res.bnd, this])
  unfold bodyV
  simp only [qE] at e6 e7
  rw [seq_nx (σ' := [x0, some (.d (.int w)), some (.d (matD m)), x3, x4, some (.d bent), some (.d (.str (dueS (anyMat w bent)))), x7, some (.d x), some (.d (.bool (isVec w c x))), x10, x11, x12, x13, x14]) (S' := S) (by
    generalize hq : (eCa pLen (esCons (eBin pIx (eVar 2) (eLit (.int 0))) esNil)) = q at e4 ⊢
    simp [e4, e5])]
  rw [seq_nx (σ' := [x0, some (.d (.int w)), some (.d (matD m)), x3, x4, some (.d bent), some (.d (.str (dueS (anyMat w bent)))), x7, some (.d x), some (.d (.bool (isVec w c x))), x10, x11, x12, x13, x14]) (S' := S) (by
    generalize hq : eHand 0 (lamQ (Str.ofString "_law_errors_right")) (tp 0) g__law_error (eCall f_matrix_times (esCons (eVar 1) (esCons (eVar 2) (esCons (eVar 8) esNil)))) = q at e6 ⊢
    cases hx : isVec w c x <;> rw [hx] at e6 <;> simp [e6, atI, ixN])]
  cases ha : anyMat w bent with
  | true => simp [dueS, due_ne]
  | false =>
    have e7 := e7 ha
    rw [ha] at e7
    generalize hq : eHand 0 (lamQ (Str.ofString "_law_errors_right")) (tp 0) g__law_error (eCall f_matrix_times (esCons (eVar 1) (esCons (eVar 5) (esCons (eVar 8) esNil)))) = q at e7 ⊢
    simp only [dueS, Bool.false_eq_true, if_false] at e7
    simp [dueS, e7]
end T
set_option maxRecDepth 100000
set_option maxHeartbeats 4000000
namespace T
open PySem PySem.Spec PyProof.Rows L2 Z MM
def odds5 : List PyData := [.int 0, .int 17, .none, .bool true, .str (Str.ofString "4")]
theorem odds5_ok : ∀ v ∈ odds5, inWidth v = false := fun v h => by
  have := List.all_eq_true.mp (show odds5.all (fun v => !inWidth v) = true by decide +kernel) v h
  simpa using this
theorem Dr.get {S S' : Sto} {i j : Nat} (h : Dr S i S') (hj : j ≠ i) : S'[j]? = S[j]? := by
  obtain ⟨a, b, c, _, rfl⟩ := h
  exact List.getElem?_set_ne (Ne.symm hj)
theorem ev_prod {S : Sto} {σ : Sg} {o : Out} {es : Exs} {vs : List SV} (h : es σ S = some (.ok vs S)) (hp : match o with | .ret => ∃ v : PyData, f_matrix_product vs S = some (.ok (.d v) S) | .w => f_matrix_product vs S = some (.exc xW S) | .m => f_matrix_product vs S = some (.exc xM S) | .v => f_matrix_product vs S = some (.exc xV S)) : o.is ((eCall f_matrix_product es) σ S) S := by
  cases o with
  | ret =>
    obtain ⟨v, hp⟩ := hp
    exact ⟨v, by simp only [eCall, h, Res.bnd, hp]⟩
  | w => show _ = some (Res.exc xW S); simp only [eCall, h, Res.bnd, hp]
  | m => show _ = some (Res.exc xM S); simp only [eCall, h, Res.bnd, hp]
  | v => show _ = some (Res.exc xV S); simp only [eCall, h, Res.bnd, hp]
/-- a product by the law's teller -/
theorem hand_prod {S : Sto} {σ : Sg} {tp : Nat → Addr} {w b dep sz : Nat} {es : Exs} {ds : List PyData} {B : Bool} (hT : S[0]? = some (.tab qE (tp 0))) (hw : 1 ≤ w) (hw2 : w ≤ 16) (h2 : sz ≤ 16777216) (h : es σ S = some (.ok (.d (.int w) :: ds.map .d) S)) (hz : ∀ d ∈ ds, Sz b dep sz d) (hl : ds.length ≤ 1000) (hf : B = true ↔ Fits w ds) :
    eHand 0 (lamQ (Str.ofString "_law_errors_right")) (tp 0) g__law_error (eCall f_matrix_product es) σ S = some (.ok (.d (.str (dueS B))) S) := by
  cases hB : B with
  | true => exact hand_out (o := .ret) hT (ev_prod h (prod_ret hw hw2 h2 hz hl (hf.mp hB)))
  | false => exact hand_out (o := .m) hT (ev_prod h (prod_m hw hw2 h2 hz hl fun z => by rw [hf.mpr z] at hB; cases hB))
theorem asc_due (B : Bool) : asc (dueS B) = true := by cases B <;> decide +kernel
theorem str_list (xs : List Str) (h : ∀ x ∈ xs, asc x = true) {S : Sto} : pNe (.d (.list (xs.map .str))) (.d (.list (xs.map .str))) S = some (.d (.bool false)) ∧ pEq (.d (.list (xs.map .str))) (.d (.list (xs.map .str))) S = some (.d (.bool true)) := by
  have h1 := okD_strs h
  have h2 := eqv_strs xs
  generalize xs.map PyData.str = L at h1 h2 ⊢
  constructor <;> simp [h1, h2]
end T
set_option maxRecDepth 100000
set_option maxHeartbeats 4000000
namespace T
open PySem PySem.Spec PyProof.Rows L2 Z MM
/-- a comprehension that draws -/
theorem cmp_draw {g : Tg} {e : Ex} {σ0 : Sg} {i : Nat} {P : PyData → Prop} (ds : List PyData) (hz : ds.length ≤ sizeLine) {S : Sto} (h : StrAt S i)
    (ht : ∀ d ∈ ds, ∀ T, StrAt T i → T.length = S.length → (∀ j, j ≠ i → T[j]? = S[j]?) → ∃ σ1, g d σ0 = some σ1 ∧ ∃ y T', Dr T i T' ∧ P y ∧ e σ1 T = some (.ok (.d y) T')) :
    ∃ (out : List PyData) (S' : Sto), Dr S i S' ∧ out.length = ds.length ∧ (∀ y ∈ out, P y) ∧ cmpGo none g tTrue e σ0 ds [] S = some (S', out) := by
  obtain ⟨S', out, e1, ⟨q1, q2⟩, q3⟩ := cmpGo_inv (g := g) (t := tTrue) (e := e) (σ0 := σ0) (fun _ T ac => Dr S i T ∧ ∀ y ∈ ac, P y) ds 0 [] (fun j d T ac hd ⟨hT, hac⟩ _ => by
    obtain ⟨σ1, e1, y, T', d1, py, e2⟩ := ht d (List.mem_of_getElem? hd) T (hT.at h.lt) hT.len (fun j hj => by
      obtain ⟨a, b, c, _, rfl⟩ := hT
      exact List.getElem?_set_ne (Ne.symm hj))
    exact ⟨σ1, e1, T, rfl, y, T', e2, hT.trans d1, fun z hz => (List.mem_append.mp hz).elim (hac z) fun q => by
      rw [List.mem_singleton.mp q]; exact py⟩) (by simpa using hz) S ⟨Dr.self h, fun y hy => nomatch hy⟩
  exact ⟨out, S', q1, by simpa using q3, q2, e1⟩
theorem rows_of {w c : Nat} : ∀ {out : List PyData}, (∀ y ∈ out, ∃ ns : List Int, y = tupI ns ∧ ns.length = c ∧ wordsW w ns) → ∃ m : List (List Int), out = m.map tupI ∧ ∀ x ∈ m, x.length = c ∧ wordsW w x
  | [], _ => ⟨[], rfl, fun _ h => nomatch h⟩
  | y :: out, h => by
    obtain ⟨ns, rfl, h1⟩ := h y List.mem_cons_self
    obtain ⟨m, rfl, h2⟩ := rows_of (out := out) fun z hz => h z (List.mem_cons_of_mem _ hz)
    exact ⟨ns :: m, rfl, fun x hx => (List.mem_cons.mp hx).elim (fun e => e ▸ h1) (h2 x)⟩
theorem drawn_mat {S : Sto} {i w r c : Nat} (h : StrAt S i) (hw : 1 ≤ w) (hw2 : w ≤ 16) (hr : 1 ≤ r ∧ r ≤ 5) (hc : 1 ≤ c ∧ c ≤ 5) : ∃ (m : List (List Int)) (S' : Sto), Mt w r c m ∧ Dr S i S' ∧ f__law_drawn_matrix [.r i, .d (.int w), .d (.int r), .d (.int c)] S = some (.ok (.d (matD m)) S') := by
  have h62 : small62 (r : Int) := by unfold small62; omega
  obtain ⟨out, S', d1, l1, p1, e1⟩ := cmp_draw (g := gVar 4) (e := (eCall f__law_row (esCons (eVar 0) (esCons (eVar 1) (esCons (eVar 3) esNil))))) (σ0 := [some (.r i), some (.d (.int w)), some (.d (.int r)), some (.d (.int c)), none]) (P := fun y => ∃ ns : List Int, y = tupI ns ∧ ns.length = c ∧ wordsW w ns) (Z.upTo 0 r) (by rw [upTo_len]; exact sz_le (by omega)) h (fun d _ T hT _ _ => by
    obtain ⟨ns, T', q1, q2, q3, q4⟩ := row hT hw hw2 (n := c) (by omega)
    exact ⟨_, rfl, tupI ns, T', q1, ⟨ns, rfl, q2, q3⟩, by simp [q4]⟩)
  have hl := d1.len
  obtain ⟨m, rfl, h2⟩ := rows_of p1
  refine ⟨m, S', ⟨by rw [← List.length_map (f := tupI), l1, upTo_len], h2, hr, hc⟩, d1, ?_⟩
  rw [show matD m = .tuple (m.map tupI) from rfl]
  generalize m.map tupI = L at e1 ⊢
  simp [f__law_drawn_matrix, m__law_drawn_matrix, h62, e1, ← hl]
theorem errors_right {S : Sto} {i w r c : Nat} {tp : Nat → Addr} {m : List (List Int)} {v : List Int} (h : StrAt S i) (hi : i ≠ 0) (hT : S[0]? = some (.tab qE (tp 0))) (hw : 1 ≤ w) (hw2 : w ≤ 16) (hm : Mt w r c m) (hvl : v.length = c) (hv : wordsW w v) :
    ∃ S', Dr S i S' ∧ f__law_errors_right tp [.r i, .d (.int w), .d (matD m), .d (tupI v)] S = some (.ok (.d (.bool true)) S') := by
  have hr1 := hm.r1
  have hc1 := hm.c1
  have mz := hm.sz hw2
  obtain ⟨u1, S1, a1, b1, d1, e1⟩ := draw h (n := 5) (by omega) (by omega)
  obtain ⟨odd, f1, m1⟩ := atI_in (ds := odds5) a1 (by simpa [odds5] using b1)
  have s1 := d1.at h.lt
  have go := odds5_ok odd m1
  obtain ⟨bd, S2, d2, z2, e2⟩ := bent (b := 130) (by omega) (by omega) 2 8 2 528 S1 (matD m) (by omega) (by omega) (by omega) s1 (mz.mono (by omega) (by omega) (by omega))
  have e2 : f__law_bent 8 [.r i, .d (matD m), .d (.int 2)] S1 = some (.ok (.d bd) S2) := e2
  have s2 := d2.at s1.lt
  have D2 := d1.trans d2
  have hT2 : S2[0]? = some (.tab qE (tp 0)) := by rw [D2.get (Ne.symm hi)]; exact hT
  have e3 := l_some_matrix (S := S2) hw2 z2 (by omega)
  have mz' : Sz 131 10 7900 (matD m) := mz.mono (by omega) (by omega) (by omega)
  have bz' : Sz 131 10 7900 bd := z2.mono (by omega) (by omega) (by omega)
  have nz' : Sz 131 10 7900 (.none : PyData) := Sz.none.mono (Nat.le_refl _) (Nat.zero_le _) (by omega)
  have T1 : ∀ (A : Sto) (o : Ob), A[0]? = some (.tab qE (tp 0)) → (A ++ [o])[0]? = some (.tab qE (tp 0)) := fun A o ha => app_getS ha
  have g1 : ∀ (A : Sto) o, (A ++ [o])[A.length]? = some o := fun A o => by simp
  have g2 : ∀ (A : Sto) o o', (A ++ [o]).set A.length o' = A ++ [o'] := fun A o o' => by simp
  have z5 : ∀ n, n ≤ 10 → n < sizeLine := fun n hn => sz_lt (by omega)
  -- the six values of the loop
  obtain ⟨X, hX⟩ : ∃ X : Sto, X = S2 ++ [.lst [.str (Str.ofString "width"), .str (Str.ofString "width")]] ++ [.lst [.str (dueS (anyMat w bd)), .str (Str.ofString "matrix")]] := ⟨_, rfl⟩
  have hXT : X[0]? = some (.tab qE (tp 0)) := by rw [hX]; exact T1 _ _ (T1 _ _ hT2)
  have sX : StrAt X i := by rw [hX]; exact (s2.app).app
  have vz := vec_sz hw2 hc1.2 hvl hv
  obtain ⟨bv, S3, d3, z3, e4⟩ := bent (b := 130) (by omega) (by omega) 1 8 2 528 X (tupI v) (by omega) (by omega) (by omega) sX (vz.mono (by omega) (by omega) (by omega))
  have e4 : f__law_bent 8 [.r i, .d (tupI v), .d (.int 1)] X = some (.ok (.d bv) S3) := e4
  have s3 := d3.at sX.lt
  have hT3 : S3[0]? = some (.tab qE (tp 0)) := by rw [d3.get (Ne.symm hi)]; exact hXT
  have loopV := forGo_inv (g := gVar 8) (body := bodyV tp) (fun _ σ T => T = S3 ∧ ∃ x8 x9, σ = [some (.r i), some (.d (.int w)), some (.d (matD m)), some (.d (tupI v)), some (.d odd), some (.d bd), some (.d (.str (dueS (anyMat w bd)))), some (.r (S2.length + 1)), x8, x9, none, none, none, none, none]) [tupI v, .tuple (v.map .int ++ [.int 0]), .tuple (Z.cutD (v.map .int) (some 1) none), .list (v.map .int), .none, bv] 0 (by
    rintro j d σ T hd ⟨rfl, x8, x9, rfl⟩
    have hs : ∀ ds, d = .tuple ds → ds.length ≤ sizeLine := by
      have hd := List.mem_of_getElem? hd
      simp only [List.mem_cons, List.not_mem_nil, or_false] at hd
      rcases hd with rfl | rfl | rfl | rfl | rfl | rfl
      · intro ds e; cases e; exact sz_le (by simp; omega)
      · intro ds e; cases e; exact sz_le (by simp; omega)
      · intro ds e; cases e; exact Nat.le_trans (cut_len _ _ _) (sz_le (by simp; omega))
      · intro ds e; cases e
      · intro ds e; cases e
      · exact Sz.zs z3 (by omega)
    obtain ⟨y9, e⟩ := body_v (S := T) (tp := tp) (bent := bd) (x := d) (x0 := some (.r i)) (x3 := some (.d (tupI v))) (x4 := some (.d odd)) (x7 := some (.r (S2.length + 1))) (x9 := x9) (x10 := none) (x11 := none) (x12 := none) (x13 := none) (x14 := none) hT3 hw hw2 hm z2 (by omega) hs
    exact ⟨_, rfl, _, _, e, rfl, _, _, rfl⟩)
  obtain ⟨σ', S', eV, eS, y8, y9, rfl⟩ := loopV [some (.r i), some (.d (.int w)), some (.d (matD m)), some (.d (tupI v)), some (.d odd), some (.d bd), some (.d (.str (dueS (anyMat w bd)))), some (.r (S2.length + 1)), none, none, none, none, none, none, none] S3 ⟨rfl, _, _, rfl⟩
  rw [eS] at eV
  obtain ⟨S3a, D3a, eS3⟩ : ∃ A, Dr S2 i A ∧ S3 = A ++ [.lst [.str (Str.ofString "width"), .str (Str.ofString "width")], .lst [.str (dueS (anyMat w bd)), .str (Str.ofString "matrix")]] := by
    have hX' : X = S2 ++ [.lst [.str (Str.ofString "width"), .str (Str.ofString "width")], .lst [.str (dueS (anyMat w bd)), .str (Str.ofString "matrix")]] := by rw [hX]; simp
    rw [hX'] at d3
    exact d3.app s2.lt
  obtain ⟨q5, hq5, hq6⟩ : ∃ q : Nat, (1 : Int) + (c : Int) % 5 = q ∧ (1 ≤ q ∧ q ≤ 5 ∧ q ≠ c) := ⟨1 + c % 5, by omega, by omega, by omega, by omega⟩
  obtain ⟨wd, S4, hwd, d4, e5⟩ := drawn_mat s3 hw hw2 (r := q5) (c := 2) ⟨hq6.1, hq6.2.1⟩ (by omega)
  have e5 : f__law_drawn_matrix [.r i, .d (.int w), .d (.int q5), .d (.int 2)] S3 = some (.ok (.d (matD wd)) S4) := e5
  have hT4 : S4[0]? = some (.tab qE (tp 0)) := by rw [d4.get (Ne.symm hi)]; exact hT3
  obtain ⟨S4a, D4a, eS4⟩ : ∃ A, Dr S3a i A ∧ S4 = A ++ [.lst [.str (Str.ofString "width"), .str (Str.ofString "width")], .lst [.str (dueS (anyMat w bd)), .str (Str.ofString "matrix")]] := by
    rw [eS3] at d4
    exact d4.app (D3a.at s2.lt).lt
  have DD := (D2.trans D3a).trans D4a
  refine ⟨S4a, DD, ?_⟩
  have UM := unit_mt hw hr1
  have uz' : Sz 131 10 7900 (matD (unitM r)) := (UM.sz hw2).mono (by omega) (by omega) (by omega)
  have wz' : Sz 131 10 7900 (matD wd) := (hwd.sz hw2).mono (by omega) (by omega) (by omega)
  have zs1 : ∀ {x : PyData}, Sz 131 10 7900 x → ∀ d ∈ [x], Sz 131 10 7900 d := fun hx d hd => by rw [List.mem_singleton.mp hd]; exact hx
  have zs2 : ∀ {x y : PyData}, Sz 131 10 7900 x → Sz 131 10 7900 y → ∀ d ∈ [x, y], Sz 131 10 7900 d := fun hx hy d hd => by
    rcases List.mem_cons.mp hd with rfl | hd
    · exact hx
    · exact zs1 hy d hd
  have zs3 : ∀ {x y z : PyData}, Sz 131 10 7900 x → Sz 131 10 7900 y → Sz 131 10 7900 z → ∀ d ∈ [x, y, z], Sz 131 10 7900 d := fun hx hy hz d hd => by
    rcases List.mem_cons.mp hd with rfl | hd
    · exact hx
    · exact zs2 hy hz d hd
  have F3 : anyMat w bd = true ↔ Fits w [bd] := ⟨fun ha => by
    obtain ⟨mb, rb, cb, rfl, hb⟩ := anyMat_of ha
    exact fits_one hb, fun hf => hf.all bd (by simp)⟩
  have F4 : false = true ↔ Fits w [.none, matD m] := ⟨fun z => Bool.noConfusion z, fun hf => by have := hf.all .none (by simp); rw [none_no] at this; exact this⟩
  have F9 : false = true ↔ Fits w [matD (unitM r), matD m, .none] := ⟨fun z => Bool.noConfusion z, fun hf => by have := hf.all .none (by simp); rw [none_no] at this; exact this⟩
  have F7 : false = true ↔ Fits w [matD m, matD wd] := ⟨fun z => Bool.noConfusion z, fun hf => by
    have := (fits_cons hf).1
    rw [hwd.len, hm.wid] at this
    exact absurd this hq6.2.2⟩
  have F8 : false = true ↔ Fits w [matD (unitM r), matD m, matD wd] := ⟨fun z => Bool.noConfusion z, fun hf => F7.mpr (fits_cons hf).2⟩
  obtain ⟨LB, hLB⟩ : ∃ LB : Bool, LB = (anyMat w bd && decide ((match bd with | .tuple ds => ds.length | _ => 0) = r)) := ⟨_, rfl⟩
  have F5 : LB = true ↔ Fits w [matD (unitM r), bd] := by
    rw [hLB]
    simp only [Bool.and_eq_true, decide_eq_true_eq]
    constructor
    · rintro ⟨ha, hl⟩
      obtain ⟨mb, rb, cb, rfl, hb⟩ := anyMat_of ha
      have : mb.length = r := by simpa [matD] using hl
      have hb : Mt w r cb mb := by
        have h1 := hb.len
        rw [this] at h1
        rw [h1]; exact hb
      exact fits_add UM hb (fits_one hb)
    · intro hf
      have ha := hf.all bd (by simp)
      obtain ⟨mb, rb, cb, rfl, hb⟩ := anyMat_of ha
      have := (fits_cons hf).1
      rw [UM.wid] at this
      exact ⟨ha, by simpa [matD] using this⟩
  have F6 : LB = true ↔ Fits w [matD (unitM r), matD (unitM r), bd] := ⟨fun z => fits_add UM UM (F5.mp z), fun hf => F5.mpr (fits_cons hf).2⟩
  have e6 : (eIf (tAd (tVal (eBin pEq (eVar 6) (eLit (.str (Str.ofString "returned"))))) (tVal (eBin pEq (eCa pLen (esCons (eVar 5) esNil)) (eCa pLen (esCons (eVar 2) esNil))))) (eLit (.str (Str.ofString "returned"))) (eLit (.str (Str.ofString "matrix")))) [some (.r i), some (.d (.int w)), some (.d (matD m)), some (.d (tupI v)), some (.d odd), some (.d bd), some (.d (.str (dueS (anyMat w bd)))), some (.r (S2.length + 1)), y8, y9, some (.d (matD (unitM r))), none, none, none, none] S3 = some (.ok (.d (.str (dueS LB))) S3) := by
    rw [hLB]
    cases ha : anyMat w bd with
    | false =>
      have : ¬ (Str.ofString "matrix" = Str.ofString "returned") := by decide +kernel
      simp [dueS, this]
    | true =>
      obtain ⟨mb, rb, cb, rfl, hb⟩ := anyMat_of ha
      have hml := hm.len
      simp only [matD]
      by_cases hl : mb.length = r
      · simp [dueS, hl, hml, okD_int, PyData.eqv]
      · have hl' : ¬ (mb.length : Int) = r := by omega
        simp [dueS, hl, hml, hl', okD_int, PyData.eqv]
  have hm1 : m__law_errors_right tp [some (.r i), some (.d (.int w)), some (.d (matD m)), some (.d (tupI v)), none, none, none, none, none, none, none, none, none, none, none] S = some (.rt (.d (.bool true)) (S4 ++ [.lst ([dueS LB, dueS LB, dueS false, dueS false, dueS false].map .str)])) := by
    unfold m__law_errors_right
    simp only [odds5] at f1
    rw [seq_nx (σ' := [some (.r i), some (.d (.int w)), some (.d (matD m)), some (.d (tupI v)), some (.d odd), none, none, none, none, none, none, none, none, none, none]) (S' := S1) (by simp [e1, f1])]
    rw [seq_nx (σ' := [some (.r i), some (.d (.int w)), some (.d (matD m)), some (.d (tupI v)), some (.d odd), some (.d bd), none, none, none, none, none, none, none, none, none]) (S' := S2) (by simp [e2])]
    rw [seq_nx (σ' := [some (.r i), some (.d (.int w)), some (.d (matD m)), some (.d (tupI v)), some (.d odd), some (.d bd), some (.d (.str (dueS (anyMat w bd)))), none, none, none, none, none, none, none, none]) (S' := S2) (by
      cases ha : anyMat w bd <;> rw [ha] at e3 <;> simp [e3, atI, ixN, dueS])]
    have hd := fun (σ : Sg) (A : Sto) (hA : A[0]? = some (.tab qE (tp 0))) (es : Exs) (h : es σ A = some (.ok [.d odd, .d .none, .d .none] A)) => hand_out (o := .w) (σ := σ) hA (ee := eCall f_matrix_times es) (by show _ = some (Res.exc xW A); simp only [eCall, h, Res.bnd, p_mtimes_w go])
    have hd2 := fun (σ : Sg) (A : Sto) (hA : A[0]? = some (.tab qE (tp 0))) (es : Exs) (h : es σ A = some (.ok [.d odd] A)) => hand_out (o := .w) (σ := σ) hA (ee := eCall f_matrix_product es) (by show _ = some (Res.exc xW A); simp only [eCall, h, Res.bnd, p_product_w go])
    simp only [Out.str] at hd hd2
    rw [seq_nx (σ' := [some (.r i), some (.d (.int w)), some (.d (matD m)), some (.d (tupI v)), some (.d odd), some (.d bd), some (.d (.str (dueS (anyMat w bd)))), some (.r S2.length), none, none, none, none, none, none, none]) (S' := S2 ++ [.lst [.str (Str.ofString "width")]]) (by
      have := hd [some (.r i), some (.d (.int w)), some (.d (matD m)), some (.d (tupI v)), some (.d odd), some (.d bd), some (.d (.str (dueS (anyMat w bd)))), none, none, none, none, none, none, none, none] S2 hT2 (esCons (eVar 4) (esCons (eLit .none) (esCons (eLit .none) esNil))) rfl
      simp only [sNew, nLst, esCons, esNil, qE] at this ⊢
      simp only [this, bnd_ok]
      simp [sz_le])]
    rw [seq_nx (σ' := [some (.r i), some (.d (.int w)), some (.d (matD m)), some (.d (tupI v)), some (.d odd), some (.d bd), some (.d (.str (dueS (anyMat w bd)))), some (.r S2.length), none, none, none, none, none, none, none]) (S' := S2 ++ [.lst [.str (Str.ofString "width"), .str (Str.ofString "width")]]) (by
      have := hd2 [some (.r i), some (.d (.int w)), some (.d (matD m)), some (.d (tupI v)), some (.d odd), some (.d bd), some (.d (.str (dueS (anyMat w bd)))), some (.r S2.length), none, none, none, none, none, none, none] (S2 ++ [.lst [.str (Str.ofString "width")]]) (T1 _ _ hT2) (esCons (eVar 4) esNil) rfl
      simp only [sDo, eApp, qE, eVar, List.getElem?_cons_succ, List.getElem?_cons_zero, bnd_ok] at this ⊢
      simp only [g1, this, bnd_ok]
      simp [g1, g2, z5])]
    rw [seq_nx (σ' := [some (.r i), some (.d (.int w)), some (.d (matD m)), some (.d (tupI v)), some (.d odd), some (.d bd), some (.d (.str (dueS (anyMat w bd)))), some (.r S2.length), none, none, none, none, none, none, none]) (S' := S2 ++ [.lst [.str (Str.ofString "width"), .str (Str.ofString "width")]]) (by
      have := hand_prod (B := false) (ds := []) (σ := [some (.r i), some (.d (.int w)), some (.d (matD m)), some (.d (tupI v)), some (.d odd), some (.d bd), some (.d (.str (dueS (anyMat w bd)))), some (.r S2.length), none, none, none, none, none, none, none]) (T1 _ (.lst [.str (Str.ofString "width"), .str (Str.ofString "width")]) hT2) hw hw2 (b := 131) (dep := 10) (sz := 7900) (by omega) (es := esCons (eVar 1) esNil) rfl (fun _ h => nomatch h) (by simp) ⟨fun z => Bool.noConfusion z, fun ⟨m, r, e, _⟩ => by cases e⟩
      generalize hq : eHand 0 (lamQ (Str.ofString "_law_errors_right")) (tp 0) g__law_error (eCall f_matrix_product (esCons (eVar 1) esNil)) = q at this ⊢
      have ho := okD_strs (xs := [Str.ofString "width", Str.ofString "width", Str.ofString "matrix"]) (forall_cons (by decide +kernel) <| forall_cons (by decide +kernel) <| forall_cons (by decide +kernel) forall_nil)
      have he := eqv_strs [Str.ofString "width", Str.ofString "width", Str.ofString "matrix"]
      rw [show dueS false = Str.ofString "matrix" from rfl] at this
      simp only [List.map_cons, List.map_nil] at ho he
      simp only [sIf, tVal, eBin, eCa, esCons, esNil, eVar, List.getElem?_cons_succ, List.getElem?_cons_zero, bnd_ok, this]
      simp [g1, ho, he, z5, sz_le])]
    have A1l : (S2 ++ [.lst [.str (Str.ofString "width"), .str (Str.ofString "width")]] : Sto).length = S2.length + 1 := by simp
    rw [seq_nx (σ' := [some (.r i), some (.d (.int w)), some (.d (matD m)), some (.d (tupI v)), some (.d odd), some (.d bd), some (.d (.str (dueS (anyMat w bd)))), some (.r (S2.length + 1)), none, none, none, none, none, none, none]) (S' := S2 ++ [.lst [.str (Str.ofString "width"), .str (Str.ofString "width")]] ++ [.lst [.str (dueS (anyMat w bd))]]) (by
      have := hand_prod (B := anyMat w bd) (ds := [bd]) (σ := [some (.r i), some (.d (.int w)), some (.d (matD m)), some (.d (tupI v)), some (.d odd), some (.d bd), some (.d (.str (dueS (anyMat w bd)))), some (.r S2.length), none, none, none, none, none, none, none]) (T1 _ (.lst [.str (Str.ofString "width"), .str (Str.ofString "width")]) hT2) hw hw2 (b := 131) (dep := 10) (sz := 7900) (by omega) (es := esCons (eVar 1) (esCons (eVar 5) esNil)) rfl (zs1 bz') (by simp) F3
      simp only [sNew, nLst, esCons, esNil] at this ⊢
      simp only [this, bnd_ok]
      simp [sz_le])]
    rw [seq_nx (σ' := [some (.r i), some (.d (.int w)), some (.d (matD m)), some (.d (tupI v)), some (.d odd), some (.d bd), some (.d (.str (dueS (anyMat w bd)))), some (.r (S2.length + 1)), none, none, none, none, none, none, none]) (S' := S2 ++ [.lst [.str (Str.ofString "width"), .str (Str.ofString "width")]] ++ [.lst [.str (dueS (anyMat w bd)), .str (Str.ofString "matrix")]]) (by
      have := hand_prod (B := false) (ds := [.none, matD m]) (σ := [some (.r i), some (.d (.int w)), some (.d (matD m)), some (.d (tupI v)), some (.d odd), some (.d bd), some (.d (.str (dueS (anyMat w bd)))), some (.r (S2.length + 1)), none, none, none, none, none, none, none]) (T1 _ (.lst [.str (dueS (anyMat w bd))]) (T1 _ (.lst [.str (Str.ofString "width"), .str (Str.ofString "width")]) hT2)) hw hw2 (b := 131) (dep := 10) (sz := 7900) (by omega) (es := esCons (eVar 1) (esCons (eLit .none) (esCons (eVar 2) esNil))) rfl (zs2 nz' mz') (by simp) F4
      rw [show dueS false = Str.ofString "matrix" from rfl] at this
      have k1 := g1 (S2 ++ [.lst [.str (Str.ofString "width"), .str (Str.ofString "width")]]) (.lst [.str (dueS (anyMat w bd))])
      have k2 := g2 (S2 ++ [.lst [.str (Str.ofString "width"), .str (Str.ofString "width")]]) (.lst [.str (dueS (anyMat w bd))]) (.lst [.str (dueS (anyMat w bd)), .str (Str.ofString "matrix")])
      rw [A1l] at k1 k2
      generalize hq : eHand 0 (lamQ (Str.ofString "_law_errors_right")) (tp 0) g__law_error (eCall f_matrix_product (esCons (eVar 1) (esCons (eLit .none) (esCons (eVar 2) esNil)))) = q at this ⊢
      simp only [sDo, eApp, eVar, List.getElem?_cons_succ, List.getElem?_cons_zero, bnd_ok, k1, this]
      simp only [List.cons_append, List.nil_append, k2, z5 1 (by omega), List.length_cons, List.length_nil, if_true]
      simp [z5])]
    rw [seq_nx (σ' := [some (.r i), some (.d (.int w)), some (.d (matD m)), some (.d (tupI v)), some (.d odd), some (.d bd), some (.d (.str (dueS (anyMat w bd)))), some (.r (S2.length + 1)), none, none, none, none, none, none, none]) (S' := X) (by
      have k1 := g1 (S2 ++ [.lst [.str (Str.ofString "width"), .str (Str.ofString "width")]]) (.lst [.str (dueS (anyMat w bd)), .str (Str.ofString "matrix")])
      rw [A1l] at k1
      rw [← hX] at k1 ⊢
      have ho := okD_strs (xs := [dueS (anyMat w bd), Str.ofString "matrix"]) (forall_cons (asc_due _) <| forall_cons (by decide +kernel) forall_nil)
      have he := eqv_strs [dueS (anyMat w bd), Str.ofString "matrix"]
      simp only [List.map_cons, List.map_nil] at ho he
      simp [k1, ho, he, sz_le])]
    have hvz : v.length + 1 ≤ sizeLine := sz_le (by omega)
    rw [seq_nx (σ' := [some (.r i), some (.d (.int w)), some (.d (matD m)), some (.d (tupI v)), some (.d odd), some (.d bd), some (.d (.str (dueS (anyMat w bd)))), some (.r (S2.length + 1)), y8, y9, none, none, none, none, none]) (S' := S3) (by
      show Sm.bnd ((wSeq (eCa dispL (esCons (eVar 3) (esCons (eBin pPlus (eVar 3) (eCa dispT (esCons (eLit (.int 0)) esNil))) (esCons (eSl (eVar 3) (poS (eLit (.int 1))) poN) (esCons (eCa pListOf (esCons (eVar 3) esNil)) (esCons (eLit .none) (esCons (eCall (f__law_bent 8) (esCons (eVar 0) (esCons (eVar 3) (esCons (eLit (.int 1)) esNil)))) esNil)))))))) [some (.r i), some (.d (.int w)), some (.d (matD m)), some (.d (tupI v)), some (.d odd), some (.d bd), some (.d (.str (dueS (anyMat w bd)))), some (.r (S2.length + 1)), none, none, none, none, none, none, none] X) (fun wk S1 => forGo wk.own (gVar 8) (bodyV tp) wk.ds [some (.r i), some (.d (.int w)), some (.d (matD m)), some (.d (tupI v)), some (.d odd), some (.d bd), some (.d (.str (dueS (anyMat w bd)))), some (.r (S2.length + 1)), none, none, none, none, none, none, none] S1) = _
      rw [show (wSeq (eCa dispL (esCons (eVar 3) (esCons (eBin pPlus (eVar 3) (eCa dispT (esCons (eLit (.int 0)) esNil))) (esCons (eSl (eVar 3) (poS (eLit (.int 1))) poN) (esCons (eCa pListOf (esCons (eVar 3) esNil)) (esCons (eLit .none) (esCons (eCall (f__law_bent 8) (esCons (eVar 0) (esCons (eVar 3) (esCons (eLit (.int 1)) esNil)))) esNil)))))))) [some (.r i), some (.d (.int w)), some (.d (matD m)), some (.d (tupI v)), some (.d odd), some (.d bd), some (.d (.str (dueS (anyMat w bd)))), some (.r (S2.length + 1)), none, none, none, none, none, none, none] X = some (.ok ⟨[tupI v, .tuple (v.map .int ++ [.int 0]), .tuple (Z.cutD (v.map .int) (some 1) none), .list (v.map .int), .none, bv], none⟩ S3) by
        simp only [tupI] at e4 ⊢
        simp [e4, hvz, sz_le]]
      exact eV)]
    rw [seq_nx (law_unit (r := r) hr1.2 hm.len)]
    rw [seq_nx (σ' := [some (.r i), some (.d (.int w)), some (.d (matD m)), some (.d (tupI v)), some (.d odd), some (.d bd), some (.d (.str (dueS (anyMat w bd)))), some (.r (S2.length + 1)), y8, y9, some (.d (matD (unitM r))), none, none, some (.d (.str (dueS LB))), none]) (S' := S3) (by
      generalize hq : (eIf (tAd (tVal (eBin pEq (eVar 6) (eLit (.str (Str.ofString "returned"))))) (tVal (eBin pEq (eCa pLen (esCons (eVar 5) esNil)) (eCa pLen (esCons (eVar 2) esNil))))) (eLit (.str (Str.ofString "returned"))) (eLit (.str (Str.ofString "matrix")))) = q at e6 ⊢
      simp [e6])]
    have hs5 : short 5 := by unfold short; omega
    rw [seq_nx (σ' := [some (.r i), some (.d (.int w)), some (.d (matD m)), some (.d (tupI v)), some (.d odd), some (.d bd), some (.d (.str (dueS (anyMat w bd)))), some (.r (S2.length + 1)), y8, y9, some (.d (matD (unitM r))), none, none, some (.d (.str (dueS LB))), some (.d (matD wd))]) (S' := S4) (by
      have h5 : (1 : Int) + (c : Int) % 5 = q5 := hq5
      simp only [tupI] at *
      simp [hvl, h5, e5])]
    rw [seq_nx (σ' := [some (.r i), some (.d (.int w)), some (.d (matD m)), some (.d (tupI v)), some (.d odd), some (.d bd), some (.d (.str (dueS (anyMat w bd)))), some (.r S4.length), y8, y9, some (.d (matD (unitM r))), none, none, some (.d (.str (dueS LB))), some (.d (matD wd))]) (S' := S4 ++ [.lst [.str (dueS LB)]]) (by
      have := hand_prod (B := LB) (ds := [matD (unitM r), bd]) (σ := [some (.r i), some (.d (.int w)), some (.d (matD m)), some (.d (tupI v)), some (.d odd), some (.d bd), some (.d (.str (dueS (anyMat w bd)))), some (.r (S2.length + 1)), y8, y9, some (.d (matD (unitM r))), none, none, some (.d (.str (dueS LB))), some (.d (matD wd))]) hT4 hw hw2 (b := 131) (dep := 10) (sz := 7900) (by omega) (es := esCons (eVar 1) (esCons (eVar 10) (esCons (eVar 5) esNil))) rfl (zs2 uz' bz') (by simp) F5
      simp only [sNew, nLst, esCons, esNil] at this ⊢
      simp only [this, bnd_ok]
      simp [sz_le])]
    rw [seq_nx (σ' := [some (.r i), some (.d (.int w)), some (.d (matD m)), some (.d (tupI v)), some (.d odd), some (.d bd), some (.d (.str (dueS (anyMat w bd)))), some (.r S4.length), y8, y9, some (.d (matD (unitM r))), none, none, some (.d (.str (dueS LB))), some (.d (matD wd))]) (S' := S4 ++ [.lst [.str (dueS LB), .str (dueS LB)]]) (by
      have := hand_prod (B := LB) (ds := [matD (unitM r), matD (unitM r), bd]) (σ := [some (.r i), some (.d (.int w)), some (.d (matD m)), some (.d (tupI v)), some (.d odd), some (.d bd), some (.d (.str (dueS (anyMat w bd)))), some (.r S4.length), y8, y9, some (.d (matD (unitM r))), none, none, some (.d (.str (dueS LB))), some (.d (matD wd))]) (T1 _ (.lst [.str (dueS LB)]) hT4) hw hw2 (b := 131) (dep := 10) (sz := 7900) (by omega) (es := (esCons (eVar 1) (esCons (eVar 10) (esCons (eVar 10) (esCons (eVar 5) esNil))))) rfl (zs3 uz' uz' bz') (by simp) F6
      generalize hq : eHand 0 (lamQ (Str.ofString "_law_errors_right")) (tp 0) g__law_error (eCall f_matrix_product (esCons (eVar 1) (esCons (eVar 10) (esCons (eVar 10) (esCons (eVar 5) esNil))))) = q at this ⊢
      generalize dueS LB = s1 at this ⊢
      simp only [sDo, eApp, eVar, List.getElem?_cons_succ, List.getElem?_cons_zero, bnd_ok, g1, this, g2, List.cons_append, List.nil_append]
      simp [z5])]
    rw [seq_nx (σ' := [some (.r i), some (.d (.int w)), some (.d (matD m)), some (.d (tupI v)), some (.d odd), some (.d bd), some (.d (.str (dueS (anyMat w bd)))), some (.r S4.length), y8, y9, some (.d (matD (unitM r))), none, none, some (.d (.str (dueS LB))), some (.d (matD wd))]) (S' := S4 ++ [.lst [.str (dueS LB), .str (dueS LB), .str (dueS false)]]) (by
      have := hand_prod (B := false) (ds := [matD m, matD wd]) (σ := [some (.r i), some (.d (.int w)), some (.d (matD m)), some (.d (tupI v)), some (.d odd), some (.d bd), some (.d (.str (dueS (anyMat w bd)))), some (.r S4.length), y8, y9, some (.d (matD (unitM r))), none, none, some (.d (.str (dueS LB))), some (.d (matD wd))]) (T1 _ (.lst [.str (dueS LB), .str (dueS LB)]) hT4) hw hw2 (b := 131) (dep := 10) (sz := 7900) (by omega) (es := (esCons (eVar 1) (esCons (eVar 2) (esCons (eVar 14) esNil)))) rfl (zs2 mz' wz') (by simp) F7
      generalize hq : eHand 0 (lamQ (Str.ofString "_law_errors_right")) (tp 0) g__law_error (eCall f_matrix_product (esCons (eVar 1) (esCons (eVar 2) (esCons (eVar 14) esNil)))) = q at this ⊢
      generalize dueS false = s1 at this ⊢
      simp only [sDo, eApp, eVar, List.getElem?_cons_succ, List.getElem?_cons_zero, bnd_ok, g1, this, g2, List.cons_append, List.nil_append]
      simp [z5])]
    rw [seq_nx (σ' := [some (.r i), some (.d (.int w)), some (.d (matD m)), some (.d (tupI v)), some (.d odd), some (.d bd), some (.d (.str (dueS (anyMat w bd)))), some (.r S4.length), y8, y9, some (.d (matD (unitM r))), none, none, some (.d (.str (dueS LB))), some (.d (matD wd))]) (S' := S4 ++ [.lst [.str (dueS LB), .str (dueS LB), .str (dueS false), .str (dueS false)]]) (by
      have := hand_prod (B := false) (ds := [matD (unitM r), matD m, matD wd]) (σ := [some (.r i), some (.d (.int w)), some (.d (matD m)), some (.d (tupI v)), some (.d odd), some (.d bd), some (.d (.str (dueS (anyMat w bd)))), some (.r S4.length), y8, y9, some (.d (matD (unitM r))), none, none, some (.d (.str (dueS LB))), some (.d (matD wd))]) (T1 _ (.lst [.str (dueS LB), .str (dueS LB), .str (dueS false)]) hT4) hw hw2 (b := 131) (dep := 10) (sz := 7900) (by omega) (es := (esCons (eVar 1) (esCons (eVar 10) (esCons (eVar 2) (esCons (eVar 14) esNil))))) rfl (zs3 uz' mz' wz') (by simp) F8
      generalize hq : eHand 0 (lamQ (Str.ofString "_law_errors_right")) (tp 0) g__law_error (eCall f_matrix_product (esCons (eVar 1) (esCons (eVar 10) (esCons (eVar 2) (esCons (eVar 14) esNil))))) = q at this ⊢
      generalize dueS false = s1 at this ⊢
      simp only [sDo, eApp, eVar, List.getElem?_cons_succ, List.getElem?_cons_zero, bnd_ok, g1, this, g2, List.cons_append, List.nil_append]
      simp [z5])]
    rw [seq_nx (σ' := [some (.r i), some (.d (.int w)), some (.d (matD m)), some (.d (tupI v)), some (.d odd), some (.d bd), some (.d (.str (dueS (anyMat w bd)))), some (.r S4.length), y8, y9, some (.d (matD (unitM r))), none, none, some (.d (.str (dueS LB))), some (.d (matD wd))]) (S' := S4 ++ [.lst [.str (dueS LB), .str (dueS LB), .str (dueS false), .str (dueS false), .str (dueS false)]]) (by
      have := hand_prod (B := false) (ds := [matD (unitM r), matD m, .none]) (σ := [some (.r i), some (.d (.int w)), some (.d (matD m)), some (.d (tupI v)), some (.d odd), some (.d bd), some (.d (.str (dueS (anyMat w bd)))), some (.r S4.length), y8, y9, some (.d (matD (unitM r))), none, none, some (.d (.str (dueS LB))), some (.d (matD wd))]) (T1 _ (.lst [.str (dueS LB), .str (dueS LB), .str (dueS false), .str (dueS false)]) hT4) hw hw2 (b := 131) (dep := 10) (sz := 7900) (by omega) (es := (esCons (eVar 1) (esCons (eVar 10) (esCons (eVar 2) (esCons (eLit .none) esNil))))) rfl (zs3 uz' mz' nz') (by simp) F9
      generalize hq : eHand 0 (lamQ (Str.ofString "_law_errors_right")) (tp 0) g__law_error (eCall f_matrix_product (esCons (eVar 1) (esCons (eVar 10) (esCons (eVar 2) (esCons (eLit .none) esNil))))) = q at this ⊢
      generalize dueS false = s1 at this ⊢
      simp only [sDo, eApp, eVar, List.getElem?_cons_succ, List.getElem?_cons_zero, bnd_ok, g1, this, g2, List.cons_append, List.nil_append]
      simp [z5])]
    have ho := okD_strs (xs := [dueS LB, dueS LB, dueS false, dueS false, dueS false]) (forall_cons (asc_due _) <| forall_cons (asc_due _) <| forall_cons (asc_due _) <| forall_cons (asc_due _) <| forall_cons (asc_due _) forall_nil)
    have he := eqv_strs [dueS LB, dueS LB, dueS false, dueS false, dueS false]
    rw [show dueS false = Str.ofString "matrix" from rfl] at ho he ⊢
    simp only [List.map_cons, List.map_nil] at ho he ⊢
    simp [g1, ho, he, sz_le]
  have hl := DD.len
  have htk : (S4 ++ [Ob.lst ([dueS LB, dueS LB, dueS false, dueS false, dueS false].map .str)]).take S.length = S4a := by
    rw [eS4, List.append_assoc, List.take_append_of_le_length (by omega), List.take_of_length_le (by omega)]
  generalize ([dueS LB, dueS LB, dueS false, dueS false, dueS false].map PyData.str) = FL at hm1 htk
  simp [f__law_errors_right, hm1, htk]
end T
set_option maxRecDepth 100000
set_option maxHeartbeats 4000000
namespace T
open PySem PySem.Spec PyProof.Rows L2 Z MM
theorem any_width {S : Sto} {i : Nat} (h : StrAt S i) : ∃ (w : Nat) (S' : Sto), 1 ≤ w ∧ w ≤ 16 ∧ Dr S i S' ∧ f__law_any_width [.r i] S = some (.ok (.d (.int w)) S') := by
  obtain ⟨v, S1, v0, v1, d1, e1⟩ := draw h (n := 16) (by omega) (by omega)
  obtain ⟨u, S2, u0, u1, d2, e2⟩ := draw (d1.at h.lt) (n := 8) (by omega) (by omega)
  obtain ⟨y, e3, hy⟩ := atI_in (ds := [PyData.int 1, .int 2, .int 3, .int 4, .int 8, .int 16, .int 15, .int (1 + v)]) u0 (by simpa using u1)
  have hq : ∀ d ∈ [PyData.int 1, .int 2, .int 3, .int 4, .int 8, .int 16, .int 15, .int (1 + v)], ∃ z : Nat, d = .int z ∧ 1 ≤ z ∧ z ≤ 16 :=
    forall_cons ⟨1, rfl, by omega, by omega⟩ <| forall_cons ⟨2, rfl, by omega, by omega⟩ <| forall_cons ⟨3, rfl, by omega, by omega⟩ <| forall_cons ⟨4, rfl, by omega, by omega⟩ <| forall_cons ⟨8, rfl, by omega, by omega⟩ <| forall_cons ⟨16, rfl, by omega, by omega⟩ <| forall_cons ⟨15, rfl, by omega, by omega⟩ <|
    forall_cons ⟨(1 + v).toNat, by congr 1; omega, by omega, by omega⟩ forall_nil
  obtain ⟨z, rfl, z0, z1⟩ := hq y hy
  have hl := (d1.trans d2).len
  exact ⟨z, S2, z0, z1, d1.trans d2, by simp [f__law_any_width, m__law_any_width, e1, e2, e3, ← hl]⟩
theorem nat_add {v : Int} (h : 0 ≤ v) : ∃ m : Nat, (1 : Int) + v = m ∧ m = 1 + v.toNat := ⟨1 + v.toNat, by omega, rfl⟩
theorem take1 {S : Sto} {o : Ob} (h : S[0]? = some o) : S.take 1 = [o] := by
  cases S with
  | nil => simp at h
  | cons a b => simp at h; simp [h]
/-- the last number -/
def lastN (a : Nat) : List Nat → Nat
  | [] => a
  | b :: r => lastN b r
theorem lastN_in {P : Nat → Prop} : ∀ (a : Nat) (r : List Nat), P a → (∀ x ∈ r, P x) → P (lastN a r)
  | _, [], h, _ => h
  | _, b :: r, _, hr => lastN_in b r (hr b List.mem_cons_self) fun x hx => hr x (List.mem_cons_of_mem _ hx)
theorem at_last {α : Type} (l : List α) (x : α) : atI (l ++ [x]) (-1) = some x := by
  unfold atI ixN
  have h : (-1 + ((l.length : Int) + 1)).toNat = l.length := by omega
  have h2 : (1 : Int) ≤ (l.length : Int) + 1 := by omega
  simp [h, h2]
theorem lastN_split : ∀ (a : Nat) (r : List Nat), ∃ l, a :: r = l ++ [lastN a r]
  | a, [] => ⟨[], rfl⟩
  | a, b :: r => by
    obtain ⟨l, e⟩ := lastN_split b r
    exact ⟨a :: l, congrArg (a :: ·) e⟩
theorem last_mat {w : Nat} : ∀ (m : List (List Int)) (r : List (List (List Int))), AllM w (m :: r) → ChF (wid m) r → ∃ l ml a, m :: r = l ++ [ml] ∧ Mt w a (lastW (wid m) r) ml
  | m, [], h, _ => ⟨[], m, m.length, rfl, Mt.self (h m List.mem_cons_self)⟩
  | m, b :: r, h, hc => by
    obtain ⟨l, ml, a, e, hm⟩ := last_mat b r h.tl hc.2
    exact ⟨m :: l, ml, a, by rw [e]; rfl, hm⟩
noncomputable abbrev eDM : Ex := (eCall f__law_drawn_matrix (esCons (eVar 2) (esCons (eVar 3) (esCons (eVar 7) (esCons (eVar 8) esNil)))))
theorem draw_mats {i w : Nat} (hw : 1 ≤ w) (hw2 : w ≤ 16) {x0 x1 x4 x5 x6 x9 x10 x11 x12 x13 : Option SV} : ∀ (rest : List Nat) (a : Nat) (acc : List PyData) (S : Sto), StrAt S i → (1 ≤ a ∧ a ≤ 5) → (∀ x ∈ rest, 1 ≤ x ∧ x ≤ 5) → acc.length + rest.length ≤ 100 →
    ∃ (ms : List (List (List Int))) (S' : Sto), Dr S i S' ∧ AllM w ms ∧ ChF a ms ∧ lastW a ms = lastN a rest ∧ ms.length = rest.length ∧
      cmpGo none (gPair (gVar 7) (gVar 8)) tTrue eDM [x0, x1, some (.r i), some (.d (.int w)), x4, x5, x6, none, none, x9, x10, x11, x12, x13] (zipD ((a :: rest).map fun (k : Nat) => .int (k : Int)) (rest.map fun (k : Nat) => .int (k : Int))) acc S = some (S', acc ++ ms.map matD)
  | [], a, acc, S, h, _, _, _ => ⟨[], S, Dr.self h, (fun _ h => nomatch h), trivial, rfl, rfl, by simp [zipD, cmpGo, gdOk]⟩
  | b :: rest, a, acc, S, h, ha, hr, hl => by
    have hb := hr b List.mem_cons_self
    obtain ⟨m, S1, hm, d1, e1⟩ := drawn_mat h hw hw2 ha hb
    obtain ⟨ms, S2, d2, h1, h2, h3, h4, e2⟩ := draw_mats (i := i) hw hw2 (x0 := x0) (x1 := x1) (x4 := x4) (x5 := x5) (x6 := x6) (x9 := x9) (x10 := x10) (x11 := x11) (x12 := x12) (x13 := x13) rest b (acc ++ [matD m]) S1 (d1.at h.lt) hb (fun x hx => hr x (List.mem_cons_of_mem _ hx)) (by simp at hl ⊢; omega)
    have hlt : acc.length < sizeLine := sz_lt (by simp at hl; omega)
    refine ⟨m :: ms, S2, d1.trans d2, fun x hx => (List.mem_cons.mp hx).elim (fun e => e ▸ ⟨a, b, hm⟩) (h1 x), ⟨hm.len, by rw [hm.wid]; exact h2⟩, by show lastW (wid m) ms = lastN b rest; rw [hm.wid, h3], by simp [h4], ?_⟩
    have hg : gPair (gVar 7) (gVar 8) (.tuple [.int (a : Int), .int (b : Int)]) [x0, x1, some (.r i), some (.d (.int w)), x4, x5, x6, none, none, x9, x10, x11, x12, x13] = some [x0, x1, some (.r i), some (.d (.int w)), x4, x5, x6, some (.d (.int (a : Int))), some (.d (.int (b : Int))), x9, x10, x11, x12, x13] := rfl
    have he : eDM [x0, x1, some (.r i), some (.d (.int w)), x4, x5, x6, some (.d (.int (a : Int))), some (.d (.int (b : Int))), x9, x10, x11, x12, x13] S = some (.ok (.d (matD m)) S1) := by simp [eDM, e1]
    generalize hq : (eDM : Ex) = q at he e2 ⊢
    simp only [List.map_cons, zipD] at e2 ⊢
    simp only [cmpGo, gdOk, if_true, hg, Option.bind, tTrue, he, hlt]
    rw [e2, List.append_assoc]; rfl
theorem mats_szs {w : Nat} (hw2 : w ≤ 16) : ∀ {ms : List (List (List Int))}, AllM w ms → Szs 16 2 (530 * ms.length) (ms.map matD)
  | [], _ => Szs.nil
  | m :: ms, h => by
    have h1 := (Mt.self (h m List.mem_cons_self)).sz hw2
    exact (Szs.cons h1 (mats_szs hw2 h.tl)).mono (Nat.le_refl _) (Nat.le_refl _) (by rw [List.length_cons]; omega)
end T
set_option maxRecDepth 100000
set_option maxHeartbeats 4000000
namespace T
open PySem PySem.Spec PyProof.Rows L2 Z MM
theorem nats_of : ∀ {out : List PyData}, (∀ y ∈ out, ∃ k : Nat, y = .int (k : Int) ∧ 1 ≤ k ∧ k ≤ 5) → ∃ l : List Nat, out = l.map (fun (k : Nat) => .int (k : Int)) ∧ ∀ x ∈ l, 1 ≤ x ∧ x ≤ 5
  | [], _ => ⟨[], rfl, fun _ h => nomatch h⟩
  | y :: out, h => by
    obtain ⟨k, rfl, h1⟩ := h y List.mem_cons_self
    obtain ⟨l, rfl, h2⟩ := nats_of (out := out) fun z hz => h z (List.mem_cons_of_mem _ hz)
    exact ⟨k :: l, rfl, fun x hx => (List.mem_cons.mp hx).elim (fun e => e ▸ h1) (h2 x)⟩
noncomputable abbrev turn (tp : Nat → Addr) : Sm := (sSeq (sNew 2 (nCall f__law_stream (esCons (eVar 0) (esCons (eVar 1) esNil))))
    (sSeq (sAsg (gPair (gVar 3) (gVar 4)) (eCa dispT (esCons (eCall f__law_any_width (esCons (eVar 2) esNil)) (esCons (eComp (wRng1 (eBin pPlus (eLit (.int 2)) (eCall f__law_draw (esCons (eVar 2) (esCons (eLit (.int 4)) esNil))))) (gVar 5) tTrue (eBin pPlus (eLit (.int 1)) (eCall f__law_draw (esCons (eVar 2) (esCons (eLit (.int 5)) esNil)))) [5]) esNil))))
    (sSeq (sSet 6 (eComp (wZip2 (eVar 4) (eSl (eVar 4) (poS (eLit (.int 1))) poN)) (gPair (gVar 7) (gVar 8)) tTrue (eCall f__law_drawn_matrix (esCons (eVar 2) (esCons (eVar 3) (esCons (eVar 7) (esCons (eVar 8) esNil))))) [7, 8]))
    (sSeq (sSet 9 (eCall f__law_row (esCons (eVar 2) (esCons (eVar 3) (esCons (eBin pIx (eVar 4) (eNeg (eLit (.int 1)))) esNil)))))
    (sSeq (sSet 10 (eCa pRepr (esCons (eCa dispT (esCons (eVar 6) (esCons (eVar 9) esNil))) esNil)))
    (sSeq (sIf (tOr_ (tNt (tVal (eCall f__law_right (esCons (eVar 3) (esCons (eVar 6) (esCons (eVar 9) esNil)))))) (tVal (eBin pNe (eCa pRepr (esCons (eCa dispT (esCons (eVar 6) (esCons (eVar 9) esNil))) esNil)) (eVar 10)))) (sRet (eLit (.bool false))) sNil)
    (sIf (tNt (tVal (eCall (f__law_errors_right tp) (esCons (eVar 2) (esCons (eVar 3) (esCons (eBin pIx (eVar 6) (eNeg (eLit (.int 1)))) (esCons (eVar 9) esNil))))))) (sRet (eLit (.bool false))) sNil)))))))
abbrev tb0 (tp : Nat → Addr) : Ob := .tab qE (tp 0)
theorem law_turn {tp : Nat → Addr} {ns : List Int} {j : Nat} {x2 x3 x4 x5 x6 x7 x8 x9 x10 : Option SV} {T : Sto} (hT : T[0]? = some (tb0 tp)) : ∃ (y2 y3 y4 y5 y6 y7 y8 y9 y10 : Option SV) (T' : Sto), T'[0]? = some (tb0 tp) ∧
    turn tp [some (.s ns), some (.d (.int j)), x2, x3, x4, x5, x6, x7, x8, x9, x10, none, none, none] T = some (.nx [some (.s ns), some (.d (.int j)), y2, y3, y4, y5, y6, y7, y8, y9, y10, none, none, none] T') := by
  have hT0 : 0 < T.length := (List.getElem?_eq_some_iff.mp hT).1
  have hi : T.length ≠ 0 := by omega
  obtain ⟨a0, b0, ha0, e0⟩ := stream (ns := ns) (k := j) (S := T)
  have s0 : StrAt (T ++ [.lst [.int a0, .int b0, .int 0]]) T.length := ⟨a0, b0, 0, ha0, by simp⟩
  have t0 : (T ++ [Ob.lst [.int a0, .int b0, .int 0]])[0]? = some (tb0 tp) := app_getS hT
  obtain ⟨w, T1, hw, hw2, d1, e1⟩ := any_width s0
  have s1 := d1.at s0.lt
  obtain ⟨v1, T2, a2, b2, d2, e2⟩ := draw s1 (n := 4) (by omega) (by omega)
  have s2 := d2.at s1.lt
  obtain ⟨N, hN, hN2⟩ : ∃ N : Nat, (2 : Int) + v1 = N ∧ 2 ≤ N ∧ N ≤ 5 := ⟨2 + v1.toNat, by omega, by omega, by omega⟩
  have h62 : small62 (N : Int) := by unfold small62; omega
  obtain ⟨out, T3, d3, l3, p3, e3⟩ := cmp_draw (g := gVar 5) (e := (eBin pPlus (eLit (.int 1)) (eCall f__law_draw (esCons (eVar 2) (esCons (eLit (.int 5)) esNil))))) (σ0 := [some (.s ns), some (.d (.int j)), some (.r T.length), x3, x4, none, x6, x7, x8, x9, x10, none, none, none]) (P := fun y => ∃ k : Nat, y = .int (k : Int) ∧ 1 ≤ k ∧ k ≤ 5) (Z.upTo 0 N) (by rw [upTo_len]; exact sz_le (by omega)) s2 (fun d _ U hU _ _ => by
    obtain ⟨v, U', q1, q2, q3, q4⟩ := draw hU (n := 5) (by omega) (by omega)
    obtain ⟨k, hk, hk2⟩ := nat_add q1
    exact ⟨_, rfl, .int (k : Int), U', q3, ⟨k, rfl, by omega, by omega⟩, by simp [q4, hk]⟩)
  rw [upTo_len] at l3
  have s3 := d3.at s2.lt
  obtain ⟨sides, rfl, hs⟩ := nats_of p3
  rw [List.length_map] at l3
  cases sides with
  | nil => simp at l3; omega
  | cons a rest =>
  have lrest : rest.length + 1 = N := by simpa using l3
  obtain ⟨ms, T4, d4, hM, hC, hlast, hlen, e4⟩ := draw_mats (i := T.length) hw hw2 (x0 := some (.s ns)) (x1 := some (.d (.int j))) (x4 := some (.d (.list ((a :: rest).map fun (k : Nat) => .int (k : Int))))) (x5 := x5) (x6 := x6) (x9 := x9) (x10 := x10) (x11 := none) (x12 := none) (x13 := none) rest a [] T3 s3 (hs a List.mem_cons_self) (fun x hx => hs x (List.mem_cons_of_mem _ hx)) (by simp; omega)
  have s4 := d4.at s3.lt
  have hc5 : 1 ≤ lastN a rest ∧ lastN a rest ≤ 5 := lastN_in (P := fun x => 1 ≤ x ∧ x ≤ 5) a rest (hs a List.mem_cons_self) (fun x hx => hs x (List.mem_cons_of_mem _ hx))
  obtain ⟨v, T5, d5, hvl, hv, e5⟩ := row s4 hw hw2 (n := lastN a rest) (by omega)
  have s5 := d5.at s4.lt
  cases ms with
  | nil => simp at hlen; omega
  | cons m r =>
  have lr : r.length ≤ 3 := by simp at hlen; omega
  obtain ⟨lm, ml, am, em, hml⟩ := last_mat m r hM hC.2
  have hlw : lastW (wid m) r = lastN a rest := hlast
  have eR := law_right (S := T5) hw hw2 hM hC.2 lr hv (by rw [hvl, hlw])
  have DD := ((((d1.trans d2).trans d3).trans d4).trans d5)
  have t5 : T5[0]? = some (tb0 tp) := by rw [DD.get (Ne.symm hi)]; exact t0
  obtain ⟨T6, d6, eE⟩ := errors_right (tp := tp) s5 hi t5 hw hw2 hml (by rw [hvl, hlw]) hv
  have t6 : T6[0]? = some (tb0 tp) := by rw [d6.get (Ne.symm hi)]; exact t5
  have mz := mats_szs hw2 hM
  have vz := vec_sz hw2 hc5.2 hvl hv
  have lm4 : (m :: r).length ≤ 4 := by simp; omega
  have hR : okR (.tuple [.list ((m :: r).map matD), tupI v]) := ((Szs.cons mz.lst (Szs.cons (vz.mono (b' := 16) (dep' := 3) (sz' := 103) (by omega) (by omega) (by omega)) Szs.nil (sz2 := 0))).tup).okR (by omega) (by omega) (by omega)
  obtain ⟨ls, els⟩ := lastN_split a rest
  have e7 : atI ((a :: rest).map fun (k : Nat) => PyData.int (k : Int)) (-1) = some (.int (lastN a rest : Nat)) := by
    rw [els, List.map_append]; exact at_last _ _
  have e8 : atI ((m :: r).map matD) (-1) = some (matD ml) := by
    rw [em, List.map_append]; exact at_last _ _
  have hlN : T1.length = T2.length ∧ T2.length = T3.length := ⟨d2.len.symm, d3.len.symm⟩
  have ecut : Z.cutD ((a :: rest).map fun (k : Nat) => PyData.int (k : Int)) (some 1) none = rest.map fun (k : Nat) => PyData.int (k : Int) := cut1 _ _
  refine ⟨some (.r T.length), some (.d (.int w)), some (.d (.list ((a :: rest).map fun (k : Nat) => .int (k : Int)))), x5, some (.d (.list ((m :: r).map matD))), x7, x8, some (.d (tupI v)), some (.d (.str (PyData.tuple [.list ((m :: r).map matD), tupI v]).shown)), T6, t6, ?_⟩
  rw [List.nil_append] at e4
  clear em els hlast hlen mz
  generalize hSD : ((a :: rest).map fun (k : Nat) => PyData.int (k : Int)) = SD at *
  generalize hRD : (rest.map fun (k : Nat) => PyData.int (k : Int)) = RD at *
  generalize hMS : (m :: r).map matD = MS at *
  unfold turn
  rw [seq_nx (σ' := [some (.s ns), some (.d (.int j)), some (.r T.length), x3, x4, x5, x6, x7, x8, x9, x10, none, none, none]) (S' := T ++ [.lst [.int a0, .int b0, .int 0]]) (by simp [e0])]
  rw [seq_nx (σ' := [some (.s ns), some (.d (.int j)), some (.r T.length), some (.d (.int w)), some (.d (.list SD)), x5, x6, x7, x8, x9, x10, none, none, none]) (S' := T3) (by simp [e1, e2, hN, h62, e3])]
  rw [seq_nx (σ' := [some (.s ns), some (.d (.int j)), some (.r T.length), some (.d (.int w)), some (.d (.list SD)), x5, some (.d (.list MS)), x7, x8, x9, x10, none, none, none]) (S' := T4) (by
    simp only [eDM] at e4
    simp [ecut, e4])]
  rw [seq_nx (σ' := [some (.s ns), some (.d (.int j)), some (.r T.length), some (.d (.int w)), some (.d (.list SD)), x5, some (.d (.list MS)), x7, x8, some (.d (tupI v)), x10, none, none, none]) (S' := T5) (by simp [e7, e5])]
  rw [seq_nx (σ' := [some (.s ns), some (.d (.int j)), some (.r T.length), some (.d (.int w)), some (.d (.list SD)), x5, some (.d (.list MS)), x7, x8, some (.d (tupI v)), some (.d (.str (PyData.tuple [.list MS, tupI v]).shown)), none, none, none]) (S' := T5) (by simp [hR])]
  rw [seq_nx (σ' := [some (.s ns), some (.d (.int j)), some (.r T.length), some (.d (.int w)), some (.d (.list SD)), x5, some (.d (.list MS)), x7, x8, some (.d (tupI v)), some (.d (.str (PyData.tuple [.list MS, tupI v]).shown)), none, none, none]) (S' := T5) (by simp [eR, hR])]
  simp [e8, eE]
def dbl : List (List Int) := [[1, 0], [6, 2]]
def sld : List (List Int) := [[1, 1], [0, 1]]
def low : List (List Int) := [[1, 0], [1, 1]]
def okM (w r c : Nat) (m : List (List Int)) : Bool := decide (m.length = r) && m.all fun x => decide (x.length = c) && x.all fun n => decide (0 ≤ n ∧ n < 2 ^ w)
theorem mt_of {w r c : Nat} {m : List (List Int)} (hr : 1 ≤ r ∧ r ≤ 5) (hc : 1 ≤ c ∧ c ≤ 5) (h : okM w r c m = true) : Mt w r c m := by
  simp only [okM, Bool.and_eq_true, decide_eq_true_eq, List.all_eq_true] at h
  exact ⟨h.1, fun x hx => ⟨(h.2 x hx).1, fun n hn => (h.2 x hx).2 n hn⟩, hr, hc⟩
theorem law_top {S : Sto} {x0 x1 x2 x3 x4 x5 x6 x7 x8 x9 x10 : Option SV} : (sSeq (sAsg (gPair (gVar 11) (gVar 12)) (eCa dispT (esCons (eCa dispT (esCons (eCa dispT (esCons (eLit (.int 1)) (esCons (eLit (.int 0)) esNil))) (esCons (eCa dispT (esCons (eLit (.int 6)) (esCons (eLit (.int 2)) esNil))) esNil))) (esCons (eCa dispT (esCons (eCa dispT (esCons (eLit (.int 1)) (esCons (eLit (.int 1)) esNil))) (esCons (eCa dispT (esCons (eLit (.int 0)) (esCons (eLit (.int 1)) esNil))) esNil))) esNil))))
    (sSeq (sSet 13 (eCall f_matrix_product (esCons (eLit (.int 4)) (esCons (eVar 12) (esCons (eVar 12) (esCons (eVar 12) (esCons (eVar 12) (esCons (eVar 12) (esCons (eVar 12) (esCons (eVar 12) (esCons (eVar 12) (esCons (eVar 12) esNil))))))))))))
    (sRet (eAnd (eBin pEq (eVar 13) (eCa dispT (esCons (eCa dispT (esCons (eLit (.int 1)) (esCons (eLit (.int 9)) esNil))) (esCons (eCa dispT (esCons (eLit (.int 0)) (esCons (eLit (.int 1)) esNil))) esNil)))) (eBin pEq (eCall f_matrix_product (esCons (eLit (.int 4)) (esCons (eVar 11) (esCons (eVar 11) (esCons (eCa dispT (esCons (eCa dispT (esCons (eLit (.int 1)) (esCons (eLit (.int 0)) esNil))) (esCons (eCa dispT (esCons (eLit (.int 1)) (esCons (eLit (.int 1)) esNil))) esNil))) esNil))))) (eCa dispT (esCons (eCa dispT (esCons (eLit (.int 1)) (esCons (eLit (.int 0)) esNil))) (esCons (eCa dispT (esCons (eLit (.int 6)) (esCons (eLit (.int 4)) esNil))) esNil))))))))
    [x0, x1, x2, x3, x4, x5, x6, x7, x8, x9, x10, none, none, none] S = some (.rt (.d (.bool true)) S) := by
  have hS := mt_of (w := 4) (r := 2) (c := 2) (m := sld) (by omega) (by omega) (by decide +kernel)
  have hD := mt_of (w := 4) (r := 2) (c := 2) (m := dbl) (by omega) (by omega) (by decide +kernel)
  have hL := mt_of (w := 4) (r := 2) (c := 2) (m := low) (by omega) (by omega) (by decide +kernel)
  have e1 := p_product_ok (S := S) (w := 4) (m := sld) (r := [sld, sld, sld, sld, sld, sld, sld, sld]) (by omega) (by omega) (fun x hx => by
    simp only [List.mem_cons, List.not_mem_nil, or_false, or_self] at hx; rw [hx]; exact ⟨2, 2, hS⟩) ⟨rfl, rfl, rfl, rfl, rfl, rfl, rfl, rfl, trivial⟩ (by simp)
  have e2 := p_product_ok (S := S) (w := 4) (m := dbl) (r := [dbl, low]) (by omega) (by omega) (fun x hx => by
    simp only [List.mem_cons, List.not_mem_nil, or_false] at hx
    rcases hx with rfl | rfl | rfl
    · exact ⟨2, 2, hD⟩
    · exact ⟨2, 2, hD⟩
    · exact ⟨2, 2, hL⟩) ⟨rfl, rfl, trivial⟩ (by simp)
  rw [show foldP 4 sld [sld, sld, sld, sld, sld, sld, sld, sld] = [[1, 9], [0, 1]] by decide +kernel] at e1
  rw [show foldP 4 dbl [dbl, low] = [[1, 0], [6, 4]] by decide +kernel] at e2
  simp only [List.map_cons, List.map_nil] at e1 e2
  simp only [matD, tupI, dbl, sld, low, List.map_cons, List.map_nil] at e1 e2
  have o1 := okD_mat [[1, 9], [0, 1]]
  have o2 := okD_mat [[1, 0], [6, 4]]
  simp only [matD, tupI, List.map_cons, List.map_nil] at o1 o2
  have e1 : f_matrix_product [.d (.int 4), .d (.tuple [.tuple [.int 1, .int 1], .tuple [.int 0, .int 1]]), .d (.tuple [.tuple [.int 1, .int 1], .tuple [.int 0, .int 1]]), .d (.tuple [.tuple [.int 1, .int 1], .tuple [.int 0, .int 1]]), .d (.tuple [.tuple [.int 1, .int 1], .tuple [.int 0, .int 1]]), .d (.tuple [.tuple [.int 1, .int 1], .tuple [.int 0, .int 1]]), .d (.tuple [.tuple [.int 1, .int 1], .tuple [.int 0, .int 1]]), .d (.tuple [.tuple [.int 1, .int 1], .tuple [.int 0, .int 1]]), .d (.tuple [.tuple [.int 1, .int 1], .tuple [.int 0, .int 1]]), .d (.tuple [.tuple [.int 1, .int 1], .tuple [.int 0, .int 1]])] S = some (.ok (.d (.tuple [.tuple [.int 1, .int 9], .tuple [.int 0, .int 1]])) S) := e1
  have e2 : f_matrix_product [.d (.int 4), .d (.tuple [.tuple [.int 1, .int 0], .tuple [.int 6, .int 2]]), .d (.tuple [.tuple [.int 1, .int 0], .tuple [.int 6, .int 2]]), .d (.tuple [.tuple [.int 1, .int 0], .tuple [.int 1, .int 1]])] S = some (.ok (.d (.tuple [.tuple [.int 1, .int 0], .tuple [.int 6, .int 4]])) S) := e2
  simp [sz_le, e1, e2, o1, o2, PyData.eqv, PyData.eqvAll]
theorem law_holds (tp : Nat → Addr) (ns : List Int) (hl : ns.length ≤ 63) : f_law tp [.s ns] [.tab (lamQ (Str.ofString "_law_errors_right")) (tp 0)] = some (.ok (.d (.bool true)) [.tab (lamQ (Str.ofString "_law_errors_right")) (tp 0)]) := by
  have loop := forGo_inv (g := gVar 1) (body := turn tp) (fun j σ T => T[0]? = some (tb0 tp) ∧ ∃ y1 y2 y3 y4 y5 y6 y7 y8 y9 y10 : Option SV, σ = [some (.s ns), y1, y2, y3, y4, y5, y6, y7, y8, y9, y10, none, none, none]) (Z.upTo 0 (max 1 (min 8 (ns.length : Int))).toNat) 0 (by
    rintro j d σ T hd ⟨hT, y1, y2, y3, y4, y5, y6, y7, y8, y9, y10, rfl⟩
    obtain ⟨hj, rfl⟩ := upTo_get hd
    rw [show (0 : Int) + (j : Int) = j by omega]
    obtain ⟨z2, z3, z4, z5, z6, z7, z8, z9, z10, T', hT', e⟩ := law_turn (tp := tp) (ns := ns) (j := j) (x2 := y2) (x3 := y3) (x4 := y4) (x5 := y5) (x6 := y6) (x7 := y7) (x8 := y8) (x9 := y9) (x10 := y10) (T := T) hT
    exact ⟨_, rfl, _, _, e, hT', _, _, _, _, _, _, _, _, _, _, rfl⟩)
  obtain ⟨σ', S', e, hS, y1, y2, y3, y4, y5, y6, y7, y8, y9, y10, rfl⟩ := loop [some (.s ns), none, none, none, none, none, none, none, none, none, none, none, none, none] [tb0 tp] ⟨rfl, _, _, _, _, _, _, _, _, _, _, rfl⟩
  have hm : ∀ L : Int, (if 1 < if L < 8 then L else 8 then if L < 8 then L else 8 else 1) = max 1 (min 8 L) := by
    intro L
    (repeat' split) <;> omega
  have h62 : small62 (max 1 (min 8 (ns.length : Int))) := by unfold small62; omega
  have hr : m_law tp [some (.s ns), none, none, none, none, none, none, none, none, none, none, none, none, none] [tb0 tp] = some (.rt (.d (.bool true)) S') := by
    unfold m_law
    rw [seq_nx (σ' := [some (.s ns), y1, y2, y3, y4, y5, y6, y7, y8, y9, y10, none, none, none]) (S' := S') (by
      show Sm.bnd (wRng1 (eCa pMax (esCons (eLit (.int 1)) (esCons (eCa pMin (esCons (eLit (.int 8)) (esCons (eCa pLen (esCons (eVar 0) esNil)) esNil))) esNil))) [some (.s ns), none, none, none, none, none, none, none, none, none, none, none, none, none] [tb0 tp]) (fun wk S1 => forGo wk.own (gVar 1) (turn tp) wk.ds [some (.s ns), none, none, none, none, none, none, none, none, none, none, none, none, none] S1) = _
      rw [show wRng1 (eCa pMax (esCons (eLit (.int 1)) (esCons (eCa pMin (esCons (eLit (.int 8)) (esCons (eCa pLen (esCons (eVar 0) esNil)) esNil))) esNil))) [some (.s ns), none, none, none, none, none, none, none, none, none, none, none, none, none] [tb0 tp] = some (.ok ⟨Z.upTo 0 (max 1 (min 8 (ns.length : Int))).toNat, none⟩ [tb0 tp]) by
        simp [hm, h62]]
      exact e)]
    exact law_top
  simp [f_law, hr, take1 hS]
end T
set_option maxRecDepth 100000
set_option maxHeartbeats 4000000
namespace T
open PySem PySem.Spec PyProof.Rows L2 Z
theorem all_mk {P q : Program} {w : World} {K : PySem.W.Frag} {h : Heap} {mg : Str → Option Value} {t_MAX_WIDTH : Tok} {t_MAX_SIDE : Tok} {C_WordsError : Addr} {C_InvalidWidth : Addr} {C_InvalidVector : Addr} {C_InvalidMatrix : Addr} {C_InvalidNumber : Addr} {fa0 : Addr} {od0 an0 : Option Addr} {sl0 : Array (Option Value)} {oc0 kV0 dc0 pm0 ct0 : Value} {cd0 : Value} {fa1 : Addr} {od1 an1 : Option Addr} {sl1 : Array (Option Value)} {oc1 kV1 dc1 pm1 ct1 : Value} {cd1 : Value} {fa2 : Addr} {od2 an2 : Option Addr} {sl2 : Array (Option Value)} {oc2 kV2 dc2 pm2 ct2 : Value} {cd2 : Value} {fa3 : Addr} {od3 an3 : Option Addr} {sl3 : Array (Option Value)} {oc3 kV3 dc3 pm3 ct3 : Value} {cd3 : Value} {fa4 : Addr} {od4 an4 : Option Addr} {sl4 : Array (Option Value)} {oc4 kV4 dc4 pm4 ct4 : Value} {cd4 : Value} {fa5 : Addr} {od5 an5 : Option Addr} {sl5 : Array (Option Value)} {oc5 kV5 dc5 pm5 ct5 : Value} {cd5 : Value} {fa6 : Addr} {od6 an6 : Option Addr} {sl6 : Array (Option Value)} {oc6 kV6 dc6 pm6 ct6 : Value} {cd6 : Value} {fa7 : Addr} {od7 an7 : Option Addr} {sl7 : Array (Option Value)} {oc7 kV7 dc7 pm7 ct7 : Value} {cd7 : Value} {fa8 : Addr} {od8 an8 : Option Addr} {sl8 : Array (Option Value)} {oc8 kV8 dc8 pm8 ct8 : Value} {cd8 : Value} {fa9 : Addr} {od9 an9 : Option Addr} {sl9 : Array (Option Value)} {oc9 kV9 dc9 pm9 ct9 : Value} {cd9 : Value} {fa10 : Addr} {od10 an10 : Option Addr} {sl10 : Array (Option Value)} {oc10 kV10 dc10 pm10 ct10 : Value} {cd10 : Value} {fa11 : Addr} {od11 an11 : Option Addr} {sl11 : Array (Option Value)} {oc11 kV11 dc11 pm11 ct11 : Value} {cd11 : Value} {fa12 : Addr} {od12 an12 : Option Addr} {sl12 : Array (Option Value)} {oc12 kV12 dc12 pm12 ct12 : Value} {cd12 : Value} {fa13 : Addr} {od13 an13 : Option Addr} {sl13 : Array (Option Value)} {oc13 kV13 dc13 pm13 ct13 : Value} {cd13 : Value} {fa14 : Addr} {od14 an14 : Option Addr} {sl14 : Array (Option Value)} {oc14 kV14 dc14 pm14 ct14 : Value} {cd14 : Value} {fa15 : Addr} {od15 an15 : Option Addr} {sl15 : Array (Option Value)} {oc15 kV15 dc15 pm15 ct15 : Value} {cd15 : Value} {fa16 : Addr} {od16 an16 : Option Addr} {sl16 : Array (Option Value)} {oc16 kV16 dc16 pm16 ct16 : Value} {cd16 : Value} {fa17 : Addr} {od17 an17 : Option Addr} {sl17 : Array (Option Value)} {oc17 kV17 dc17 pm17 ct17 : Value} {cd17 : Value} {fa18 : Addr} {od18 an18 : Option Addr} {sl18 : Array (Option Value)} {oc18 kV18 dc18 pm18 ct18 : Value} {cd18 : Value} {fa19 : Addr} {od19 an19 : Option Addr} {sl19 : Array (Option Value)} {oc19 kV19 dc19 pm19 ct19 : Value} {cd19 : Value} {fa20 : Addr} {od20 an20 : Option Addr} {sl20 : Array (Option Value)} {oc20 kV20 dc20 pm20 ct20 : Value} {cd20 : Value} {fa21 : Addr} {od21 an21 : Option Addr} {sl21 : Array (Option Value)} {oc21 kV21 dc21 pm21 ct21 : Value} {cd21 : Value} {fa22 : Addr} {od22 an22 : Option Addr} {sl22 : Array (Option Value)} {oc22 kV22 dc22 pm22 ct22 : Value} {cd22 : Value} {fa23 : Addr} {od23 an23 : Option Addr} {sl23 : Array (Option Value)} {oc23 kV23 dc23 pm23 ct23 : Value} {cd23 : Value} {fa24 : Addr} {od24 an24 : Option Addr} {sl24 : Array (Option Value)} {oc24 kV24 dc24 pm24 ct24 : Value} {cd24 : Value} {fa25 : Addr} {od25 an25 : Option Addr} {sl25 : Array (Option Value)} {oc25 kV25 dc25 pm25 ct25 : Value} {cd25 : Value} {fa26 : Addr} {od26 an26 : Option Addr} {sl26 : Array (Option Value)} {oc26 kV26 dc26 pm26 ct26 : Value} {cd26 : Value} {fa27 : Addr} {od27 an27 : Option Addr} {sl27 : Array (Option Value)} {oc27 kV27 dc27 pm27 ct27 : Value} {cd27 : Value} {fa28 : Addr} {od28 an28 : Option Addr} {sl28 : Array (Option Value)} {oc28 kV28 dc28 pm28 ct28 : Value} {cd28 : Value} {fa29 : Addr} {od29 an29 : Option Addr} {sl29 : Array (Option Value)} {oc29 kV29 dc29 pm29 ct29 : Value} {cd29 : Value} {fa30 : Addr} {od30 an30 : Option Addr} {sl30 : Array (Option Value)} {oc30 kV30 dc30 pm30 ct30 : Value} {cd30 : Value} {fa31 : Addr} {od31 an31 : Option Addr} {sl31 : Array (Option Value)} {oc31 kV31 dc31 pm31 ct31 : Value} {cc31 pp31 : Addr} {oq31 : Value} {dq31 : Option Addr} {vq31 : Array Value} {sq31 : Array (Option Value)} {fa32 : Addr} {od32 an32 : Option Addr} {sl32 : Array (Option Value)} {oc32 kV32 dc32 pm32 ct32 : Value} {cd32 : Value} {fa33 : Addr} {od33 an33 : Option Addr} {sl33 : Array (Option Value)} {oc33 kV33 dc33 pm33 ct33 : Value} {cd33 : Value} {fa34 : Addr} {od34 an34 : Option Addr} {sl34 : Array (Option Value)} {oc34 kV34 dc34 pm34 ct34 : Value} {cd34 : Value} (KX : K.In h) (G : h.Ns mainGlobals mg) (TO : TabsOf q mg h)
    (g_MAX_WIDTH : PySem.W.nsIn K mainGlobals (Str.ofString "MAX_WIDTH") = some (some (.int 16 t_MAX_WIDTH)))
    (g_MAX_SIDE : PySem.W.nsIn K mainGlobals (Str.ofString "MAX_SIDE") = some (some (.int 5 t_MAX_SIDE)))
    (z_len : PySem.W.nsIn K mainGlobals "len" = some none)
    (z_range : PySem.W.nsIn K mainGlobals "range" = some none)
    (z_max : PySem.W.nsIn K mainGlobals "max" = some none)
    (z_min : PySem.W.nsIn K mainGlobals "min" = some none)
    (z_abs : PySem.W.nsIn K mainGlobals "abs" = some none)
    (z_int : PySem.W.nsIn K mainGlobals "int" = some none)
    (z_bool : PySem.W.nsIn K mainGlobals "bool" = some none)
    (z_str : PySem.W.nsIn K mainGlobals "str" = some none)
    (z_tuple : PySem.W.nsIn K mainGlobals "tuple" = some none)
    (z_list : PySem.W.nsIn K mainGlobals "list" = some none)
    (z_dict : PySem.W.nsIn K mainGlobals "dict" = some none)
    (z_sum : PySem.W.nsIn K mainGlobals "sum" = some none)
    (z_all : PySem.W.nsIn K mainGlobals "all" = some none)
    (z_any : PySem.W.nsIn K mainGlobals "any" = some none)
    (z_repr : PySem.W.nsIn K mainGlobals "repr" = some none)
    (z_isinstance : PySem.W.nsIn K mainGlobals "isinstance" = some none)
    (z_zip : PySem.W.nsIn K mainGlobals "zip" = some none)
    (z_enumerate : PySem.W.nsIn K mainGlobals "enumerate" = some none)
    (z_IndexError : PySem.W.nsIn K mainGlobals (Str.ofString "IndexError") = some none)
    (kg_n : PySem.W.specialIn K (.builtin "object.__class__") "__get__" = some (some (.builtin "getset_descriptor.__get__")))
    (kg_t : PySem.W.takesIn K (.builtin "object.__class__") = some true)
    (ns_WordsError : PySem.W.nsIn K mainGlobals (Str.ofString "WordsError") = some (some (.ref C_WordsError)))
    (kC_WordsError : PySem.W.keepIn K (.ref C_WordsError) = true)
    (cl_WordsError : PySem.W.isClsIn K C_WordsError = true)
    (ty_WordsError : PySem.W.typeIn K (.ref C_WordsError) = some (.type "type"))
    (ex_WordsError : PySem.W.subIn K (.ref C_WordsError) (.type "BaseException") = some true)
    (ss_WordsError : PySem.W.subIn K (.ref C_WordsError) (.ref C_WordsError) = some true)
    (ga_WordsError : PySem.W.findIn K (.ref C_WordsError) "__getattribute__" = some (some (.builtin "BaseException.__getattribute__")))
    (gg_WordsError : PySem.W.findIn K (.ref C_WordsError) "__getattr__" = some none)
    (hd_WordsError : PySem.W.hasDictIn K C_WordsError = true)
    (ha_WordsError : PySem.W.findIn K (.ref C_WordsError) "__class__" = some (some (.builtin "object.__class__")))
    (hm_WordsError : PySem.W.mroIn K C_WordsError (.type "object") = some true)
    (ns_InvalidWidth : PySem.W.nsIn K mainGlobals (Str.ofString "InvalidWidth") = some (some (.ref C_InvalidWidth)))
    (kC_InvalidWidth : PySem.W.keepIn K (.ref C_InvalidWidth) = true)
    (cl_InvalidWidth : PySem.W.isClsIn K C_InvalidWidth = true)
    (ty_InvalidWidth : PySem.W.typeIn K (.ref C_InvalidWidth) = some (.type "type"))
    (ex_InvalidWidth : PySem.W.subIn K (.ref C_InvalidWidth) (.type "BaseException") = some true)
    (ss_InvalidWidth : PySem.W.subIn K (.ref C_InvalidWidth) (.ref C_InvalidWidth) = some true)
    (ga_InvalidWidth : PySem.W.findIn K (.ref C_InvalidWidth) "__getattribute__" = some (some (.builtin "BaseException.__getattribute__")))
    (gg_InvalidWidth : PySem.W.findIn K (.ref C_InvalidWidth) "__getattr__" = some none)
    (hd_InvalidWidth : PySem.W.hasDictIn K C_InvalidWidth = true)
    (ha_InvalidWidth : PySem.W.findIn K (.ref C_InvalidWidth) "__class__" = some (some (.builtin "object.__class__")))
    (hm_InvalidWidth : PySem.W.mroIn K C_InvalidWidth (.type "object") = some true)
    (ns_InvalidVector : PySem.W.nsIn K mainGlobals (Str.ofString "InvalidVector") = some (some (.ref C_InvalidVector)))
    (kC_InvalidVector : PySem.W.keepIn K (.ref C_InvalidVector) = true)
    (cl_InvalidVector : PySem.W.isClsIn K C_InvalidVector = true)
    (ty_InvalidVector : PySem.W.typeIn K (.ref C_InvalidVector) = some (.type "type"))
    (ex_InvalidVector : PySem.W.subIn K (.ref C_InvalidVector) (.type "BaseException") = some true)
    (ss_InvalidVector : PySem.W.subIn K (.ref C_InvalidVector) (.ref C_InvalidVector) = some true)
    (ga_InvalidVector : PySem.W.findIn K (.ref C_InvalidVector) "__getattribute__" = some (some (.builtin "BaseException.__getattribute__")))
    (gg_InvalidVector : PySem.W.findIn K (.ref C_InvalidVector) "__getattr__" = some none)
    (hd_InvalidVector : PySem.W.hasDictIn K C_InvalidVector = true)
    (ha_InvalidVector : PySem.W.findIn K (.ref C_InvalidVector) "__class__" = some (some (.builtin "object.__class__")))
    (hm_InvalidVector : PySem.W.mroIn K C_InvalidVector (.type "object") = some true)
    (ns_InvalidMatrix : PySem.W.nsIn K mainGlobals (Str.ofString "InvalidMatrix") = some (some (.ref C_InvalidMatrix)))
    (kC_InvalidMatrix : PySem.W.keepIn K (.ref C_InvalidMatrix) = true)
    (cl_InvalidMatrix : PySem.W.isClsIn K C_InvalidMatrix = true)
    (ty_InvalidMatrix : PySem.W.typeIn K (.ref C_InvalidMatrix) = some (.type "type"))
    (ex_InvalidMatrix : PySem.W.subIn K (.ref C_InvalidMatrix) (.type "BaseException") = some true)
    (ss_InvalidMatrix : PySem.W.subIn K (.ref C_InvalidMatrix) (.ref C_InvalidMatrix) = some true)
    (ga_InvalidMatrix : PySem.W.findIn K (.ref C_InvalidMatrix) "__getattribute__" = some (some (.builtin "BaseException.__getattribute__")))
    (gg_InvalidMatrix : PySem.W.findIn K (.ref C_InvalidMatrix) "__getattr__" = some none)
    (hd_InvalidMatrix : PySem.W.hasDictIn K C_InvalidMatrix = true)
    (ha_InvalidMatrix : PySem.W.findIn K (.ref C_InvalidMatrix) "__class__" = some (some (.builtin "object.__class__")))
    (hm_InvalidMatrix : PySem.W.mroIn K C_InvalidMatrix (.type "object") = some true)
    (ns_InvalidNumber : PySem.W.nsIn K mainGlobals (Str.ofString "InvalidNumber") = some (some (.ref C_InvalidNumber)))
    (kC_InvalidNumber : PySem.W.keepIn K (.ref C_InvalidNumber) = true)
    (cl_InvalidNumber : PySem.W.isClsIn K C_InvalidNumber = true)
    (ty_InvalidNumber : PySem.W.typeIn K (.ref C_InvalidNumber) = some (.type "type"))
    (ex_InvalidNumber : PySem.W.subIn K (.ref C_InvalidNumber) (.type "BaseException") = some true)
    (ss_InvalidNumber : PySem.W.subIn K (.ref C_InvalidNumber) (.ref C_InvalidNumber) = some true)
    (ga_InvalidNumber : PySem.W.findIn K (.ref C_InvalidNumber) "__getattribute__" = some (some (.builtin "BaseException.__getattribute__")))
    (gg_InvalidNumber : PySem.W.findIn K (.ref C_InvalidNumber) "__getattr__" = some none)
    (hd_InvalidNumber : PySem.W.hasDictIn K C_InvalidNumber = true)
    (ha_InvalidNumber : PySem.W.findIn K (.ref C_InvalidNumber) "__class__" = some (some (.builtin "object.__class__")))
    (hm_InvalidNumber : PySem.W.mroIn K C_InvalidNumber (.type "object") = some true)
    (sb_InvalidWidth_IndexError : PySem.W.subIn K (.ref C_InvalidWidth) (.type "IndexError") = some false)
    (sb_InvalidVector_IndexError : PySem.W.subIn K (.ref C_InvalidVector) (.type "IndexError") = some false)
    (sb_InvalidMatrix_IndexError : PySem.W.subIn K (.ref C_InvalidMatrix) (.type "IndexError") = some false)
    (sb_InvalidWidth_InvalidMatrix : PySem.W.subIn K (.ref C_InvalidWidth) (.ref C_InvalidMatrix) = some false)
    (sb_InvalidVector_InvalidMatrix : PySem.W.subIn K (.ref C_InvalidVector) (.ref C_InvalidMatrix) = some false)
    (sb_InvalidMatrix_InvalidMatrix : PySem.W.subIn K (.ref C_InvalidMatrix) (.ref C_InvalidMatrix) = some true)
    (sb_InvalidWidth_InvalidNumber : PySem.W.subIn K (.ref C_InvalidWidth) (.ref C_InvalidNumber) = some false)
    (sb_InvalidVector_InvalidNumber : PySem.W.subIn K (.ref C_InvalidVector) (.ref C_InvalidNumber) = some false)
    (sb_InvalidMatrix_InvalidNumber : PySem.W.subIn K (.ref C_InvalidMatrix) (.ref C_InvalidNumber) = some false)
    (sb_InvalidWidth_InvalidVector : PySem.W.subIn K (.ref C_InvalidWidth) (.ref C_InvalidVector) = some false)
    (sb_InvalidVector_InvalidVector : PySem.W.subIn K (.ref C_InvalidVector) (.ref C_InvalidVector) = some true)
    (sb_InvalidMatrix_InvalidVector : PySem.W.subIn K (.ref C_InvalidMatrix) (.ref C_InvalidVector) = some false)
    (sb_InvalidWidth_InvalidWidth : PySem.W.subIn K (.ref C_InvalidWidth) (.ref C_InvalidWidth) = some true)
    (sb_InvalidVector_InvalidWidth : PySem.W.subIn K (.ref C_InvalidVector) (.ref C_InvalidWidth) = some false)
    (sb_InvalidMatrix_InvalidWidth : PySem.W.subIn K (.ref C_InvalidMatrix) (.ref C_InvalidWidth) = some false)
    (sb_InvalidWidth_WordsError : PySem.W.subIn K (.ref C_InvalidWidth) (.ref C_WordsError) = some true)
    (sb_InvalidVector_WordsError : PySem.W.subIn K (.ref C_InvalidVector) (.ref C_WordsError) = some true)
    (sb_InvalidMatrix_WordsError : PySem.W.subIn K (.ref C_InvalidMatrix) (.ref C_WordsError) = some true)
    (xc_InvalidWidth : PySem.W.excIn K C_InvalidWidth [.type "ValueError", .type "Exception", .type "BaseException", .type "object"] "ValueError.__new__" = true)
    (xc_InvalidVector : PySem.W.excIn K C_InvalidVector [.type "ValueError", .type "Exception", .type "BaseException", .type "object"] "ValueError.__new__" = true)
    (xc_InvalidMatrix : PySem.W.excIn K C_InvalidMatrix [.type "ValueError", .type "Exception", .type "BaseException", .type "object"] "ValueError.__new__" = true)
    (no_InvalidNumber : PySem.W.findIn K (.ref C_InvalidNumber) (Str.ofString "value") = some none)
    (a0 : PySem.W.nsIn K mainGlobals (Str.ofString "fits_bounds") = some (some (.ref fa0)))
    (l0 : K.lookup fa0 = some ⟨oc0, od0, .func (PySem.W.fnOf (Str.ofString "fits_bounds") (Str.ofString "fits_bounds") (defArgs st_fits_bounds) (defBody st_fits_bounds) (defScope st_fits_bounds) .none kV0 dc0 pm0 an0 cd0 ct0), sl0⟩)
    (c0 : PySem.W.codeIn K cd0 (Str.ofString "fits_bounds") = true)
    (k0 : PySem.W.keepIn K (.ref fa0) = true)
    (a1 : PySem.W.nsIn K mainGlobals (Str.ofString "is_width") = some (some (.ref fa1)))
    (l1 : K.lookup fa1 = some ⟨oc1, od1, .func (PySem.W.fnOf (Str.ofString "is_width") (Str.ofString "is_width") (defArgs st_is_width) (defBody st_is_width) (defScope st_is_width) .none kV1 dc1 pm1 an1 cd1 ct1), sl1⟩)
    (c1 : PySem.W.codeIn K cd1 (Str.ofString "is_width") = true)
    (k1 : PySem.W.keepIn K (.ref fa1) = true)
    (a2 : PySem.W.nsIn K mainGlobals (Str.ofString "fits_word") = some (some (.ref fa2)))
    (l2 : K.lookup fa2 = some ⟨oc2, od2, .func (PySem.W.fnOf (Str.ofString "fits_word") (Str.ofString "fits_word") (defArgs st_fits_word) (defBody st_fits_word) (defScope st_fits_word) .none kV2 dc2 pm2 an2 cd2 ct2), sl2⟩)
    (c2 : PySem.W.codeIn K cd2 (Str.ofString "fits_word") = true)
    (k2 : PySem.W.keepIn K (.ref fa2) = true)
    (a3 : PySem.W.nsIn K mainGlobals (Str.ofString "fits_words") = some (some (.ref fa3)))
    (l3 : K.lookup fa3 = some ⟨oc3, od3, .func (PySem.W.fnOf (Str.ofString "fits_words") (Str.ofString "fits_words") (defArgs st_fits_words) (defBody st_fits_words) (defScope st_fits_words) .none kV3 dc3 pm3 an3 cd3 ct3), sl3⟩)
    (c3 : PySem.W.codeIn K cd3 (Str.ofString "fits_words") = true)
    (k3 : PySem.W.keepIn K (.ref fa3) = true)
    (a4 : PySem.W.nsIn K mainGlobals (Str.ofString "fits_vector") = some (some (.ref fa4)))
    (l4 : K.lookup fa4 = some ⟨oc4, od4, .func (PySem.W.fnOf (Str.ofString "fits_vector") (Str.ofString "fits_vector") (defArgs st_fits_vector) (defBody st_fits_vector) (defScope st_fits_vector) .none kV4 dc4 pm4 an4 cd4 ct4), sl4⟩)
    (c4 : PySem.W.codeIn K cd4 (Str.ofString "fits_vector") = true)
    (k4 : PySem.W.keepIn K (.ref fa4) = true)
    (a5 : PySem.W.nsIn K mainGlobals (Str.ofString "fits_vectors") = some (some (.ref fa5)))
    (l5 : K.lookup fa5 = some ⟨oc5, od5, .func (PySem.W.fnOf (Str.ofString "fits_vectors") (Str.ofString "fits_vectors") (defArgs st_fits_vectors) (defBody st_fits_vectors) (defScope st_fits_vectors) .none kV5 dc5 pm5 an5 cd5 ct5), sl5⟩)
    (c5 : PySem.W.codeIn K cd5 (Str.ofString "fits_vectors") = true)
    (k5 : PySem.W.keepIn K (.ref fa5) = true)
    (a6 : PySem.W.nsIn K mainGlobals (Str.ofString "need_width") = some (some (.ref fa6)))
    (l6 : K.lookup fa6 = some ⟨oc6, od6, .func (PySem.W.fnOf (Str.ofString "need_width") (Str.ofString "need_width") (defArgs st_need_width) (defBody st_need_width) (defScope st_need_width) .none kV6 dc6 pm6 an6 cd6 ct6), sl6⟩)
    (c6 : PySem.W.codeIn K cd6 (Str.ofString "need_width") = true)
    (k6 : PySem.W.keepIn K (.ref fa6) = true)
    (a7 : PySem.W.nsIn K mainGlobals (Str.ofString "need_vector") = some (some (.ref fa7)))
    (l7 : K.lookup fa7 = some ⟨oc7, od7, .func (PySem.W.fnOf (Str.ofString "need_vector") (Str.ofString "need_vector") (defArgs st_need_vector) (defBody st_need_vector) (defScope st_need_vector) .none kV7 dc7 pm7 an7 cd7 ct7), sl7⟩)
    (c7 : PySem.W.codeIn K cd7 (Str.ofString "need_vector") = true)
    (k7 : PySem.W.keepIn K (.ref fa7) = true)
    (a8 : PySem.W.nsIn K mainGlobals (Str.ofString "dot") = some (some (.ref fa8)))
    (l8 : K.lookup fa8 = some ⟨oc8, od8, .func (PySem.W.fnOf (Str.ofString "dot") (Str.ofString "dot") (defArgs st_dot) (defBody st_dot) (defScope st_dot) .none kV8 dc8 pm8 an8 cd8 ct8), sl8⟩)
    (c8 : PySem.W.codeIn K cd8 (Str.ofString "dot") = true)
    (k8 : PySem.W.keepIn K (.ref fa8) = true)
    (a9 : PySem.W.nsIn K mainGlobals (Str.ofString "fits_side") = some (some (.ref fa9)))
    (l9 : K.lookup fa9 = some ⟨oc9, od9, .func (PySem.W.fnOf (Str.ofString "fits_side") (Str.ofString "fits_side") (defArgs st_fits_side) (defBody st_fits_side) (defScope st_fits_side) .none kV9 dc9 pm9 an9 cd9 ct9), sl9⟩)
    (c9 : PySem.W.codeIn K cd9 (Str.ofString "fits_side") = true)
    (k9 : PySem.W.keepIn K (.ref fa9) = true)
    (a10 : PySem.W.nsIn K mainGlobals (Str.ofString "fits_any_matrix") = some (some (.ref fa10)))
    (l10 : K.lookup fa10 = some ⟨oc10, od10, .func (PySem.W.fnOf (Str.ofString "fits_any_matrix") (Str.ofString "fits_any_matrix") (defArgs st_fits_any_matrix) (defBody st_fits_any_matrix) (defScope st_fits_any_matrix) .none kV10 dc10 pm10 an10 cd10 ct10), sl10⟩)
    (c10 : PySem.W.codeIn K cd10 (Str.ofString "fits_any_matrix") = true)
    (k10 : PySem.W.keepIn K (.ref fa10) = true)
    (a11 : PySem.W.nsIn K mainGlobals (Str.ofString "need_matrix") = some (some (.ref fa11)))
    (l11 : K.lookup fa11 = some ⟨oc11, od11, .func (PySem.W.fnOf (Str.ofString "need_matrix") (Str.ofString "need_matrix") (defArgs st_need_matrix) (defBody st_need_matrix) (defScope st_need_matrix) .none kV11 dc11 pm11 an11 cd11 ct11), sl11⟩)
    (c11 : PySem.W.codeIn K cd11 (Str.ofString "need_matrix") = true)
    (k11 : PySem.W.keepIn K (.ref fa11) = true)
    (a12 : PySem.W.nsIn K mainGlobals (Str.ofString "times_vector") = some (some (.ref fa12)))
    (l12 : K.lookup fa12 = some ⟨oc12, od12, .func (PySem.W.fnOf (Str.ofString "times_vector") (Str.ofString "times_vector") (defArgs st_times_vector) (defBody st_times_vector) (defScope st_times_vector) .none kV12 dc12 pm12 an12 cd12 ct12), sl12⟩)
    (c12 : PySem.W.codeIn K cd12 (Str.ofString "times_vector") = true)
    (k12 : PySem.W.keepIn K (.ref fa12) = true)
    (a13 : PySem.W.nsIn K mainGlobals (Str.ofString "matrix_times") = some (some (.ref fa13)))
    (l13 : K.lookup fa13 = some ⟨oc13, od13, .func (PySem.W.fnOf (Str.ofString "matrix_times") (Str.ofString "matrix_times") (defArgs st_matrix_times) (defBody st_matrix_times) (defScope st_matrix_times) .none kV13 dc13 pm13 an13 cd13 ct13), sl13⟩)
    (c13 : PySem.W.codeIn K cd13 (Str.ofString "matrix_times") = true)
    (k13 : PySem.W.keepIn K (.ref fa13) = true)
    (a14 : PySem.W.nsIn K mainGlobals (Str.ofString "times_matrix") = some (some (.ref fa14)))
    (l14 : K.lookup fa14 = some ⟨oc14, od14, .func (PySem.W.fnOf (Str.ofString "times_matrix") (Str.ofString "times_matrix") (defArgs st_times_matrix) (defBody st_times_matrix) (defScope st_times_matrix) .none kV14 dc14 pm14 an14 cd14 ct14), sl14⟩)
    (c14 : PySem.W.codeIn K cd14 (Str.ofString "times_matrix") = true)
    (k14 : PySem.W.keepIn K (.ref fa14) = true)
    (a15 : PySem.W.nsIn K mainGlobals (Str.ofString "matrix_product") = some (some (.ref fa15)))
    (l15 : K.lookup fa15 = some ⟨oc15, od15, .func (PySem.W.fnOf (Str.ofString "matrix_product") (Str.ofString "matrix_product") (defArgs st_matrix_product) (defBody st_matrix_product) (defScope st_matrix_product) .none kV15 dc15 pm15 an15 cd15 ct15), sl15⟩)
    (c15 : PySem.W.codeIn K cd15 (Str.ofString "matrix_product") = true)
    (k15 : PySem.W.keepIn K (.ref fa15) = true)
    (a16 : PySem.W.nsIn K mainGlobals (Str.ofString "_law_stream") = some (some (.ref fa16)))
    (l16 : K.lookup fa16 = some ⟨oc16, od16, .func (PySem.W.fnOf (Str.ofString "_law_stream") (Str.ofString "_law_stream") (defArgs st__law_stream) (defBody st__law_stream) (defScope st__law_stream) .none kV16 dc16 pm16 an16 cd16 ct16), sl16⟩)
    (c16 : PySem.W.codeIn K cd16 (Str.ofString "_law_stream") = true)
    (k16 : PySem.W.keepIn K (.ref fa16) = true)
    (a17 : PySem.W.nsIn K mainGlobals (Str.ofString "_law_draw") = some (some (.ref fa17)))
    (l17 : K.lookup fa17 = some ⟨oc17, od17, .func (PySem.W.fnOf (Str.ofString "_law_draw") (Str.ofString "_law_draw") (defArgs st__law_draw) (defBody st__law_draw) (defScope st__law_draw) .none kV17 dc17 pm17 an17 cd17 ct17), sl17⟩)
    (c17 : PySem.W.codeIn K cd17 (Str.ofString "_law_draw") = true)
    (k17 : PySem.W.keepIn K (.ref fa17) = true)
    (a18 : PySem.W.nsIn K mainGlobals (Str.ofString "_law_row") = some (some (.ref fa18)))
    (l18 : K.lookup fa18 = some ⟨oc18, od18, .func (PySem.W.fnOf (Str.ofString "_law_row") (Str.ofString "_law_row") (defArgs st__law_row) (defBody st__law_row) (defScope st__law_row) .none kV18 dc18 pm18 an18 cd18 ct18), sl18⟩)
    (c18 : PySem.W.codeIn K cd18 (Str.ofString "_law_row") = true)
    (k18 : PySem.W.keepIn K (.ref fa18) = true)
    (a19 : PySem.W.nsIn K mainGlobals (Str.ofString "_law_dot") = some (some (.ref fa19)))
    (l19 : K.lookup fa19 = some ⟨oc19, od19, .func (PySem.W.fnOf (Str.ofString "_law_dot") (Str.ofString "_law_dot") (defArgs st__law_dot) (defBody st__law_dot) (defScope st__law_dot) .none kV19 dc19 pm19 an19 cd19 ct19), sl19⟩)
    (c19 : PySem.W.codeIn K cd19 (Str.ofString "_law_dot") = true)
    (k19 : PySem.W.keepIn K (.ref fa19) = true)
    (a20 : PySem.W.nsIn K mainGlobals (Str.ofString "_law_row_times") = some (some (.ref fa20)))
    (l20 : K.lookup fa20 = some ⟨oc20, od20, .func (PySem.W.fnOf (Str.ofString "_law_row_times") (Str.ofString "_law_row_times") (defArgs st__law_row_times) (defBody st__law_row_times) (defScope st__law_row_times) .none kV20 dc20 pm20 an20 cd20 ct20), sl20⟩)
    (c20 : PySem.W.codeIn K cd20 (Str.ofString "_law_row_times") = true)
    (k20 : PySem.W.keepIn K (.ref fa20) = true)
    (a21 : PySem.W.nsIn K mainGlobals (Str.ofString "_law_product") = some (some (.ref fa21)))
    (l21 : K.lookup fa21 = some ⟨oc21, od21, .func (PySem.W.fnOf (Str.ofString "_law_product") (Str.ofString "_law_product") (defArgs st__law_product) (defBody st__law_product) (defScope st__law_product) .none kV21 dc21 pm21 an21 cd21 ct21), sl21⟩)
    (c21 : PySem.W.codeIn K cd21 (Str.ofString "_law_product") = true)
    (k21 : PySem.W.keepIn K (.ref fa21) = true)
    (a22 : PySem.W.nsIn K mainGlobals (Str.ofString "_law_is_int") = some (some (.ref fa22)))
    (l22 : K.lookup fa22 = some ⟨oc22, od22, .func (PySem.W.fnOf (Str.ofString "_law_is_int") (Str.ofString "_law_is_int") (defArgs st__law_is_int) (defBody st__law_is_int) (defScope st__law_is_int) .none kV22 dc22 pm22 an22 cd22 ct22), sl22⟩)
    (c22 : PySem.W.codeIn K cd22 (Str.ofString "_law_is_int") = true)
    (k22 : PySem.W.keepIn K (.ref fa22) = true)
    (a23 : PySem.W.nsIn K mainGlobals (Str.ofString "_law_odd") = some (some (.ref fa23)))
    (l23 : K.lookup fa23 = some ⟨oc23, od23, .func (PySem.W.fnOf (Str.ofString "_law_odd") (Str.ofString "_law_odd") (defArgs st__law_odd) (defBody st__law_odd) (defScope st__law_odd) .none kV23 dc23 pm23 an23 cd23 ct23), sl23⟩)
    (c23 : PySem.W.codeIn K cd23 (Str.ofString "_law_odd") = true)
    (k23 : PySem.W.keepIn K (.ref fa23) = true)
    (a24 : PySem.W.nsIn K mainGlobals (Str.ofString "_law_bent") = some (some (.ref fa24)))
    (l24 : K.lookup fa24 = some ⟨oc24, od24, .func (PySem.W.fnOf (Str.ofString "_law_bent") (Str.ofString "_law_bent") (defArgs st__law_bent) (defBody st__law_bent) (defScope st__law_bent) .none kV24 dc24 pm24 an24 cd24 ct24), sl24⟩)
    (c24 : PySem.W.codeIn K cd24 (Str.ofString "_law_bent") = true)
    (k24 : PySem.W.keepIn K (.ref fa24) = true)
    (a25 : PySem.W.nsIn K mainGlobals (Str.ofString "_law_is_vector") = some (some (.ref fa25)))
    (l25 : K.lookup fa25 = some ⟨oc25, od25, .func (PySem.W.fnOf (Str.ofString "_law_is_vector") (Str.ofString "_law_is_vector") (defArgs st__law_is_vector) (defBody st__law_is_vector) (defScope st__law_is_vector) .none kV25 dc25 pm25 an25 cd25 ct25), sl25⟩)
    (c25 : PySem.W.codeIn K cd25 (Str.ofString "_law_is_vector") = true)
    (k25 : PySem.W.keepIn K (.ref fa25) = true)
    (a26 : PySem.W.nsIn K mainGlobals (Str.ofString "_law_is_matrix") = some (some (.ref fa26)))
    (l26 : K.lookup fa26 = some ⟨oc26, od26, .func (PySem.W.fnOf (Str.ofString "_law_is_matrix") (Str.ofString "_law_is_matrix") (defArgs st__law_is_matrix) (defBody st__law_is_matrix) (defScope st__law_is_matrix) .none kV26 dc26 pm26 an26 cd26 ct26), sl26⟩)
    (c26 : PySem.W.codeIn K cd26 (Str.ofString "_law_is_matrix") = true)
    (k26 : PySem.W.keepIn K (.ref fa26) = true)
    (a27 : PySem.W.nsIn K mainGlobals (Str.ofString "_law_any_width") = some (some (.ref fa27)))
    (l27 : K.lookup fa27 = some ⟨oc27, od27, .func (PySem.W.fnOf (Str.ofString "_law_any_width") (Str.ofString "_law_any_width") (defArgs st__law_any_width) (defBody st__law_any_width) (defScope st__law_any_width) .none kV27 dc27 pm27 an27 cd27 ct27), sl27⟩)
    (c27 : PySem.W.codeIn K cd27 (Str.ofString "_law_any_width") = true)
    (k27 : PySem.W.keepIn K (.ref fa27) = true)
    (a28 : PySem.W.nsIn K mainGlobals (Str.ofString "_law_error") = some (some (.ref fa28)))
    (l28 : K.lookup fa28 = some ⟨oc28, od28, .func (PySem.W.fnOf (Str.ofString "_law_error") (Str.ofString "_law_error") (defArgs st__law_error) (defBody st__law_error) (defScope st__law_error) .none kV28 dc28 pm28 an28 cd28 ct28), sl28⟩)
    (c28 : PySem.W.codeIn K cd28 (Str.ofString "_law_error") = true)
    (k28 : PySem.W.keepIn K (.ref fa28) = true)
    (a29 : PySem.W.nsIn K mainGlobals (Str.ofString "_law_drawn_matrix") = some (some (.ref fa29)))
    (l29 : K.lookup fa29 = some ⟨oc29, od29, .func (PySem.W.fnOf (Str.ofString "_law_drawn_matrix") (Str.ofString "_law_drawn_matrix") (defArgs st__law_drawn_matrix) (defBody st__law_drawn_matrix) (defScope st__law_drawn_matrix) .none kV29 dc29 pm29 an29 cd29 ct29), sl29⟩)
    (c29 : PySem.W.codeIn K cd29 (Str.ofString "_law_drawn_matrix") = true)
    (k29 : PySem.W.keepIn K (.ref fa29) = true)
    (a30 : PySem.W.nsIn K mainGlobals (Str.ofString "_law_some_matrix") = some (some (.ref fa30)))
    (l30 : K.lookup fa30 = some ⟨oc30, od30, .func (PySem.W.fnOf (Str.ofString "_law_some_matrix") (Str.ofString "_law_some_matrix") (defArgs st__law_some_matrix) (defBody st__law_some_matrix) (defScope st__law_some_matrix) .none kV30 dc30 pm30 an30 cd30 ct30), sl30⟩)
    (c30 : PySem.W.codeIn K cd30 (Str.ofString "_law_some_matrix") = true)
    (k30 : PySem.W.keepIn K (.ref fa30) = true)
    (a31 : PySem.W.nsIn K mainGlobals (Str.ofString "_law_errors_right") = some (some (.ref fa31)))
    (l31 : K.lookup fa31 = some ⟨oc31, od31, .func (PySem.W.fnOf (Str.ofString "_law_errors_right") (Str.ofString "_law_errors_right") (defArgs st__law_errors_right) (defBody st__law_errors_right) (defScope st__law_errors_right) .none kV31 dc31 pm31 an31 (.ref cc31) ct31), sl31⟩)
    (c31 : PySem.W.codeIn K (.ref cc31) (Str.ofString "_law_errors_right") = true)
    (k31 : PySem.W.keepIn K (.ref fa31) = true)
    (lc31 : K.lookup cc31 = some ⟨oq31, dq31, .fields vq31, sq31⟩)
    (e31 : vq31[11]? = some (.ref pp31))
    (ch31 : PySem.W.codeHdIn K cc31 pp31 = true)
    (no31 : K.lookup pp31 = none)
    (rq31 : ((recsOf q).any fun e => e.name == (Str.ofString "_law_errors_right")) = true)
    (a32 : PySem.W.nsIn K mainGlobals (Str.ofString "_law_multiplied") = some (some (.ref fa32)))
    (l32 : K.lookup fa32 = some ⟨oc32, od32, .func (PySem.W.fnOf (Str.ofString "_law_multiplied") (Str.ofString "_law_multiplied") (defArgs st__law_multiplied) (defBody st__law_multiplied) (defScope st__law_multiplied) .none kV32 dc32 pm32 an32 cd32 ct32), sl32⟩)
    (c32 : PySem.W.codeIn K cd32 (Str.ofString "_law_multiplied") = true)
    (k32 : PySem.W.keepIn K (.ref fa32) = true)
    (a33 : PySem.W.nsIn K mainGlobals (Str.ofString "_law_right") = some (some (.ref fa33)))
    (l33 : K.lookup fa33 = some ⟨oc33, od33, .func (PySem.W.fnOf (Str.ofString "_law_right") (Str.ofString "_law_right") (defArgs st__law_right) (defBody st__law_right) (defScope st__law_right) .none kV33 dc33 pm33 an33 cd33 ct33), sl33⟩)
    (c33 : PySem.W.codeIn K cd33 (Str.ofString "_law_right") = true)
    (k33 : PySem.W.keepIn K (.ref fa33) = true)
    (a34 : PySem.W.nsIn K mainGlobals (Str.ofString "law") = some (some (.ref fa34)))
    (l34 : K.lookup fa34 = some ⟨oc34, od34, .func (PySem.W.fnOf (Str.ofString "law") (Str.ofString "law") (defArgs st_law) (defBody st_law) (defScope st_law) .none kV34 dc34 pm34 an34 cd34 ct34), sl34⟩)
    (c34 : PySem.W.codeIn K cd34 (Str.ofString "law") = true)
    (k34 : PySem.W.keepIn K (.ref fa34) = true)
    : ∃ (cs : Tbs) (g : Fn), TbsOk K cs h ∧ (∀ ns : List Int, ns.length ≤ 63 → g [.s ns] (tabS cs) = some (.ok (.d (.bool true)) (tabS cs))) ∧ ∀ base : Heap, K.In base → base.Ns mainGlobals mg → (∀ p ∈ cs, LamX.TabB base mg p.2.1 p.2.2) → FnG P w K mg base 13 "law" g := by
  have tt31 := TO.at KX (x := (Str.ofString "_law_errors_right")) rq31 (PySem.W.mg_of KX G a31) l31 rfl rfl ch31
  refine ⟨[(lamQ (Str.ofString "_law_errors_right"), cc31, pp31)], f_law (fun i => match i with | 0 => pp31 | _ => 0), ⟨(List.forall_mem_cons.mpr ⟨tt31.1, (fun _ z => nomatch z)⟩), (List.forall_mem_cons.mpr ⟨no31, (fun _ z => nomatch z)⟩), (by simp), (List.forall_mem_cons.mpr ⟨tt31.2, (fun _ z => nomatch z)⟩)⟩, fun ns hl => law_holds (fun i => match i with | 0 => pp31 | _ => 0) ns hl, fun base _ _ hTB => ?_⟩
  have nb : NB mg := ⟨PySem.W.mg_none_of KX G z_len, PySem.W.mg_none_of KX G z_range, PySem.W.mg_none_of KX G z_max, PySem.W.mg_none_of KX G z_min, PySem.W.mg_none_of KX G z_abs, PySem.W.mg_none_of KX G z_int, PySem.W.mg_none_of KX G z_bool, PySem.W.mg_none_of KX G z_str, PySem.W.mg_none_of KX G z_tuple, PySem.W.mg_none_of KX G z_list, PySem.W.mg_none_of KX G z_dict, PySem.W.mg_none_of KX G z_sum, PySem.W.mg_none_of KX G z_all, PySem.W.mg_none_of KX G z_any, PySem.W.mg_none_of KX G z_repr, PySem.W.mg_none_of KX G z_isinstance, PySem.W.mg_none_of KX G z_zip, PySem.W.mg_none_of KX G z_enumerate⟩
  let kl_WordsError : Kl K mg (Str.ofString "WordsError") := ⟨C_WordsError, ns_WordsError, PySem.W.mg_of KX G ns_WordsError, kC_WordsError, cl_WordsError, ty_WordsError, ex_WordsError, ss_WordsError, ga_WordsError, gg_WordsError, hd_WordsError, ha_WordsError, hm_WordsError⟩
  let kl_InvalidWidth : Kl K mg (Str.ofString "InvalidWidth") := ⟨C_InvalidWidth, ns_InvalidWidth, PySem.W.mg_of KX G ns_InvalidWidth, kC_InvalidWidth, cl_InvalidWidth, ty_InvalidWidth, ex_InvalidWidth, ss_InvalidWidth, ga_InvalidWidth, gg_InvalidWidth, hd_InvalidWidth, ha_InvalidWidth, hm_InvalidWidth⟩
  let kl_InvalidVector : Kl K mg (Str.ofString "InvalidVector") := ⟨C_InvalidVector, ns_InvalidVector, PySem.W.mg_of KX G ns_InvalidVector, kC_InvalidVector, cl_InvalidVector, ty_InvalidVector, ex_InvalidVector, ss_InvalidVector, ga_InvalidVector, gg_InvalidVector, hd_InvalidVector, ha_InvalidVector, hm_InvalidVector⟩
  let kl_InvalidMatrix : Kl K mg (Str.ofString "InvalidMatrix") := ⟨C_InvalidMatrix, ns_InvalidMatrix, PySem.W.mg_of KX G ns_InvalidMatrix, kC_InvalidMatrix, cl_InvalidMatrix, ty_InvalidMatrix, ex_InvalidMatrix, ss_InvalidMatrix, ga_InvalidMatrix, gg_InvalidMatrix, hd_InvalidMatrix, ha_InvalidMatrix, hm_InvalidMatrix⟩
  let kl_InvalidNumber : Kl K mg (Str.ofString "InvalidNumber") := ⟨C_InvalidNumber, ns_InvalidNumber, PySem.W.mg_of KX G ns_InvalidNumber, kC_InvalidNumber, cl_InvalidNumber, ty_InvalidNumber, ex_InvalidNumber, ss_InvalidNumber, ga_InvalidNumber, gg_InvalidNumber, hd_InvalidNumber, ha_InvalidNumber, hm_InvalidNumber⟩
  have kg : KlG K := ⟨kg_n, kg_t⟩
  have so_IndexError : SubsOk K (.type "IndexError") so_l_IndexError := (.consB kl_InvalidWidth kg (by decide +kernel) sb_InvalidWidth_IndexError (.consB kl_InvalidVector kg (by decide +kernel) sb_InvalidVector_IndexError (.consB kl_InvalidMatrix kg (by decide +kernel) sb_InvalidMatrix_IndexError .nil)))
  have so_InvalidMatrix : SubsOk K (.ref kl_InvalidMatrix.C) so_l_InvalidMatrix := (.cons kl_InvalidWidth kl_InvalidMatrix kg sb_InvalidWidth_InvalidMatrix (.cons kl_InvalidVector kl_InvalidMatrix kg sb_InvalidVector_InvalidMatrix (.cons kl_InvalidMatrix kl_InvalidMatrix kg sb_InvalidMatrix_InvalidMatrix .nil)))
  have so_InvalidNumber : SubsOk K (.ref kl_InvalidNumber.C) so_l_InvalidNumber := (.cons kl_InvalidWidth kl_InvalidNumber kg sb_InvalidWidth_InvalidNumber (.cons kl_InvalidVector kl_InvalidNumber kg sb_InvalidVector_InvalidNumber (.cons kl_InvalidMatrix kl_InvalidNumber kg sb_InvalidMatrix_InvalidNumber .nil)))
  have so_InvalidVector : SubsOk K (.ref kl_InvalidVector.C) so_l_InvalidVector := (.cons kl_InvalidWidth kl_InvalidVector kg sb_InvalidWidth_InvalidVector (.cons kl_InvalidVector kl_InvalidVector kg sb_InvalidVector_InvalidVector (.cons kl_InvalidMatrix kl_InvalidVector kg sb_InvalidMatrix_InvalidVector .nil)))
  have so_InvalidWidth : SubsOk K (.ref kl_InvalidWidth.C) so_l_InvalidWidth := (.cons kl_InvalidWidth kl_InvalidWidth kg sb_InvalidWidth_InvalidWidth (.cons kl_InvalidVector kl_InvalidWidth kg sb_InvalidVector_InvalidWidth (.cons kl_InvalidMatrix kl_InvalidWidth kg sb_InvalidMatrix_InvalidWidth .nil)))
  have so_WordsError : SubsOk K (.ref kl_WordsError.C) so_l_WordsError := (.cons kl_InvalidWidth kl_WordsError kg sb_InvalidWidth_WordsError (.cons kl_InvalidVector kl_WordsError kg sb_InvalidVector_WordsError (.cons kl_InvalidMatrix kl_WordsError kg sb_InvalidMatrix_WordsError .nil)))
  have mc_InvalidWidth : MsgC K mg (Str.ofString "InvalidWidth") := kl_InvalidWidth.msg xc_InvalidWidth
  have mc_InvalidVector : MsgC K mg (Str.ofString "InvalidVector") := kl_InvalidVector.msg xc_InvalidVector
  have mc_InvalidMatrix : MsgC K mg (Str.ofString "InvalidMatrix") := kl_InvalidMatrix.msg xc_InvalidMatrix
  have nb_IndexError : mg (Str.ofString "IndexError") = none := PySem.W.mg_none_of KX G z_IndexError
  have h_fits_bounds := ok_fits_bounds (P := P) (w := w) (base := base) nb  (fun_mk (st := st_fits_bounds) l0 c0 k0) (PySem.W.mg_of KX G a0)
  have h_is_width := ok_is_width (P := P) (w := w) (base := base) nb h_fits_bounds ⟨t_MAX_WIDTH, PySem.W.mg_of KX G g_MAX_WIDTH⟩ (fun_mk (st := st_is_width) l1 c1 k1) (PySem.W.mg_of KX G a1)
  have h_fits_word := ok_fits_word (P := P) (w := w) (base := base) nb h_fits_bounds (fun_mk (st := st_fits_word) l2 c2 k2) (PySem.W.mg_of KX G a2)
  have h_fits_words := ok_fits_words (P := P) (w := w) (base := base) nb h_fits_word (fun_mk (st := st_fits_words) l3 c3 k3) (PySem.W.mg_of KX G a3)
  have h_fits_vector := ok_fits_vector (P := P) (w := w) (base := base) nb h_fits_words (fun_mk (st := st_fits_vector) l4 c4 k4) (PySem.W.mg_of KX G a4)
  have h_fits_vectors := ok_fits_vectors (P := P) (w := w) (base := base) nb h_fits_vector (fun_mk (st := st_fits_vectors) l5 c5 k5) (PySem.W.mg_of KX G a5)
  have h_need_width := ok_need_width (P := P) (w := w) (base := base) nb h_is_width mc_InvalidWidth (fun_mk (st := st_need_width) l6 c6 k6) (PySem.W.mg_of KX G a6)
  have h_need_vector := ok_need_vector (P := P) (w := w) (base := base) nb h_fits_vector mc_InvalidVector (fun_mk (st := st_need_vector) l7 c7 k7) (PySem.W.mg_of KX G a7)
  have h_dot := ok_dot (P := P) (w := w) (base := base) nb  (fun_mk (st := st_dot) l8 c8 k8) (PySem.W.mg_of KX G a8)
  have h_fits_side := ok_fits_side (P := P) (w := w) (base := base) nb h_fits_bounds ⟨t_MAX_SIDE, PySem.W.mg_of KX G g_MAX_SIDE⟩ (fun_mk (st := st_fits_side) l9 c9 k9) (PySem.W.mg_of KX G a9)
  have h_fits_any_matrix := ok_fits_any_matrix (P := P) (w := w) (base := base) nb h_fits_vectors h_fits_side (fun_mk (st := st_fits_any_matrix) l10 c10 k10) (PySem.W.mg_of KX G a10)
  have h_need_matrix := ok_need_matrix (P := P) (w := w) (base := base) nb h_fits_any_matrix mc_InvalidMatrix (fun_mk (st := st_need_matrix) l11 c11 k11) (PySem.W.mg_of KX G a11)
  have h_times_vector := ok_times_vector (P := P) (w := w) (base := base) nb h_dot (fun_mk (st := st_times_vector) l12 c12 k12) (PySem.W.mg_of KX G a12)
  have h_matrix_times := ok_matrix_times (P := P) (w := w) (base := base) nb h_need_width h_need_vector h_need_matrix h_times_vector (fun_mk (st := st_matrix_times) l13 c13 k13) (PySem.W.mg_of KX G a13)
  have h_times_matrix := ok_times_matrix (P := P) (w := w) (base := base) nb h_times_vector (fun_mk (st := st_times_matrix) l14 c14 k14) (PySem.W.mg_of KX G a14)
  have h_matrix_product := ok_matrix_product (P := P) (w := w) (base := base) nb h_need_width h_need_matrix h_times_matrix mc_InvalidMatrix (fun_mk (st := st_matrix_product) l15 c15 k15) (PySem.W.mg_of KX G a15)
  have h__law_stream := ok__law_stream (P := P) (w := w) (base := base) nb  (fun_mk (st := st__law_stream) l16 c16 k16) (PySem.W.mg_of KX G a16)
  have h__law_draw := ok__law_draw (P := P) (w := w) (base := base) nb  (fun_mk (st := st__law_draw) l17 c17 k17) (PySem.W.mg_of KX G a17)
  have h__law_row := ok__law_row (P := P) (w := w) (base := base) nb h__law_draw (fun_mk (st := st__law_row) l18 c18 k18) (PySem.W.mg_of KX G a18)
  have h__law_dot := ok__law_dot (P := P) (w := w) (base := base) nb  (fun_mk (st := st__law_dot) l19 c19 k19) (PySem.W.mg_of KX G a19)
  have h__law_row_times := ok__law_row_times (P := P) (w := w) (base := base) nb  (fun_mk (st := st__law_row_times) l20 c20 k20) (PySem.W.mg_of KX G a20)
  have h__law_product := ok__law_product (P := P) (w := w) (base := base) nb h__law_row_times (fun_mk (st := st__law_product) l21 c21 k21) (PySem.W.mg_of KX G a21)
  have h__law_is_int := ok__law_is_int (P := P) (w := w) (base := base) nb  (fun_mk (st := st__law_is_int) l22 c22 k22) (PySem.W.mg_of KX G a22)
  have h__law_odd := ok__law_odd (P := P) (w := w) (base := base) nb h__law_draw (fun_mk (st := st__law_odd) l23 c23 k23) (PySem.W.mg_of KX G a23)
  have h__law_bent := ok__law_bent (P := P) (w := w) (base := base) nb h__law_draw h__law_is_int h__law_odd (fun_mk (st := st__law_bent) l24 c24 k24) (PySem.W.mg_of KX G a24)
  have h__law_is_vector := ok__law_is_vector (P := P) (w := w) (base := base) nb h__law_is_int (fun_mk (st := st__law_is_vector) l25 c25 k25) (PySem.W.mg_of KX G a25)
  have h__law_is_matrix := ok__law_is_matrix (P := P) (w := w) (base := base) nb h__law_is_vector (fun_mk (st := st__law_is_matrix) l26 c26 k26) (PySem.W.mg_of KX G a26)
  have h__law_any_width := ok__law_any_width (P := P) (w := w) (base := base) nb h__law_draw (fun_mk (st := st__law_any_width) l27 c27 k27) (PySem.W.mg_of KX G a27)
  have h__law_error := ok__law_error (P := P) (w := w) (base := base) nb kl_InvalidNumber kl_WordsError kl_InvalidVector kl_InvalidMatrix kl_InvalidWidth so_InvalidNumber so_IndexError so_WordsError so_InvalidVector so_InvalidMatrix so_InvalidWidth no_InvalidNumber nb_IndexError (fun_mk (st := st__law_error) l28 c28 k28) (PySem.W.mg_of KX G a28)
  have h__law_drawn_matrix := ok__law_drawn_matrix (P := P) (w := w) (base := base) nb h__law_row (fun_mk (st := st__law_drawn_matrix) l29 c29 k29) (PySem.W.mg_of KX G a29)
  have h__law_some_matrix := ok__law_some_matrix (P := P) (w := w) (base := base) nb h__law_is_matrix (fun_mk (st := st__law_some_matrix) l30 c30 k30) (PySem.W.mg_of KX G a30)
  have h__law_errors_right := ok__law_errors_right (P := P) (w := w) (base := base) (tp := (fun i => match i with | 0 => pp31 | _ => 0)) nb h_matrix_times h_matrix_product h__law_draw h__law_bent h__law_is_vector h__law_error h__law_drawn_matrix h__law_some_matrix (fun_mk (st := st__law_errors_right) l31 c31 k31) (PySem.W.mg_of KX G a31) rfl (hTB _ List.mem_cons_self)
  have h__law_multiplied := ok__law_multiplied (P := P) (w := w) (base := base) nb h_matrix_product (fun_mk (st := st__law_multiplied) l32 c32 k32) (PySem.W.mg_of KX G a32)
  have h__law_right := ok__law_right (P := P) (w := w) (base := base) nb h_matrix_times h_matrix_product h__law_dot h__law_product h__law_multiplied (fun_mk (st := st__law_right) l33 c33 k33) (PySem.W.mg_of KX G a33)
  have h_law := ok_law (P := P) (w := w) (base := base) (tp := (fun i => match i with | 0 => pp31 | _ => 0)) nb h_matrix_product h__law_stream h__law_draw h__law_row h__law_any_width h__law_drawn_matrix h__law_errors_right h__law_right (fun_mk (st := st_law) l34 c34 k34) (PySem.W.mg_of KX G a34)
  exact h_law
end T
open PySem PySem.W PyProof.Rows
set_option maxRecDepth 100000 in
set_option maxHeartbeats 0 in
theorem PySem.Challenge.cw_wordlaws_k14_whole_products_holds : PySem.Challenge.rw_wordlaws_k14_whole_products.Holds := by
  w_on; o_law; k_head; (case hw => w_witness2)
  k_fill
  refine Z.walk_g (l := PySem.Challenge.rw_wordlaws_k14_whole_products) (n := 63) (k := 13) rfl (by decide) rfl rfl ⟨rfl, by decide, by decide⟩ (fun w h Y => by first | exact PySem.W.kIn_of Y | exact PySem.W.km_in_of Y) (by first | rfl | decide +kernel) ?KM ?F
  case KM => intro w; first | rfl | kernel_rfl | decide +kernel
  case F =>
    intro w mg fa h KX G hmg TO
    refine' T.all_mk KX G TO ?g_MAX_WIDTH ?g_MAX_SIDE ?z_len ?z_range ?z_max ?z_min ?z_abs ?z_int ?z_bool ?z_str ?z_tuple ?z_list ?z_dict ?z_sum ?z_all ?z_any ?z_repr ?z_isinstance ?z_zip ?z_enumerate ?z_IndexError ?kg_n ?kg_t ?ns_WordsError ?kC_WordsError ?cl_WordsError ?ty_WordsError ?ex_WordsError ?ss_WordsError ?ga_WordsError ?gg_WordsError ?hd_WordsError ?ha_WordsError ?hm_WordsError ?ns_InvalidWidth ?kC_InvalidWidth ?cl_InvalidWidth ?ty_InvalidWidth ?ex_InvalidWidth ?ss_InvalidWidth ?ga_InvalidWidth ?gg_InvalidWidth ?hd_InvalidWidth ?ha_InvalidWidth ?hm_InvalidWidth ?ns_InvalidVector ?kC_InvalidVector ?cl_InvalidVector ?ty_InvalidVector ?ex_InvalidVector ?ss_InvalidVector ?ga_InvalidVector ?gg_InvalidVector ?hd_InvalidVector ?ha_InvalidVector ?hm_InvalidVector ?ns_InvalidMatrix ?kC_InvalidMatrix ?cl_InvalidMatrix ?ty_InvalidMatrix ?ex_InvalidMatrix ?ss_InvalidMatrix ?ga_InvalidMatrix ?gg_InvalidMatrix ?hd_InvalidMatrix ?ha_InvalidMatrix ?hm_InvalidMatrix ?ns_InvalidNumber ?kC_InvalidNumber ?cl_InvalidNumber ?ty_InvalidNumber ?ex_InvalidNumber ?ss_InvalidNumber ?ga_InvalidNumber ?gg_InvalidNumber ?hd_InvalidNumber ?ha_InvalidNumber ?hm_InvalidNumber ?sb_InvalidWidth_IndexError ?sb_InvalidVector_IndexError ?sb_InvalidMatrix_IndexError ?sb_InvalidWidth_InvalidMatrix ?sb_InvalidVector_InvalidMatrix ?sb_InvalidMatrix_InvalidMatrix ?sb_InvalidWidth_InvalidNumber ?sb_InvalidVector_InvalidNumber ?sb_InvalidMatrix_InvalidNumber ?sb_InvalidWidth_InvalidVector ?sb_InvalidVector_InvalidVector ?sb_InvalidMatrix_InvalidVector ?sb_InvalidWidth_InvalidWidth ?sb_InvalidVector_InvalidWidth ?sb_InvalidMatrix_InvalidWidth ?sb_InvalidWidth_WordsError ?sb_InvalidVector_WordsError ?sb_InvalidMatrix_WordsError ?xc_InvalidWidth ?xc_InvalidVector ?xc_InvalidMatrix ?no_InvalidNumber ?a0 ?l0 ?c0 ?k0 ?a1 ?l1 ?c1 ?k1 ?a2 ?l2 ?c2 ?k2 ?a3 ?l3 ?c3 ?k3 ?a4 ?l4 ?c4 ?k4 ?a5 ?l5 ?c5 ?k5 ?a6 ?l6 ?c6 ?k6 ?a7 ?l7 ?c7 ?k7 ?a8 ?l8 ?c8 ?k8 ?a9 ?l9 ?c9 ?k9 ?a10 ?l10 ?c10 ?k10 ?a11 ?l11 ?c11 ?k11 ?a12 ?l12 ?c12 ?k12 ?a13 ?l13 ?c13 ?k13 ?a14 ?l14 ?c14 ?k14 ?a15 ?l15 ?c15 ?k15 ?a16 ?l16 ?c16 ?k16 ?a17 ?l17 ?c17 ?k17 ?a18 ?l18 ?c18 ?k18 ?a19 ?l19 ?c19 ?k19 ?a20 ?l20 ?c20 ?k20 ?a21 ?l21 ?c21 ?k21 ?a22 ?l22 ?c22 ?k22 ?a23 ?l23 ?c23 ?k23 ?a24 ?l24 ?c24 ?k24 ?a25 ?l25 ?c25 ?k25 ?a26 ?l26 ?c26 ?k26 ?a27 ?l27 ?c27 ?k27 ?a28 ?l28 ?c28 ?k28 ?a29 ?l29 ?c29 ?k29 ?a30 ?l30 ?c30 ?k30 ?a31 ?l31 ?c31 ?k31 ?lc31 ?e31 ?ch31 ?no31 ?rq31 ?a32 ?l32 ?c32 ?k32 ?a33 ?l33 ?c33 ?k33 ?a34 ?l34 ?c34 ?k34
    (case g_MAX_WIDTH => k_is)
    (case g_MAX_SIDE => k_is)
    (case z_len => k_is)
    (case z_range => k_is)
    (case z_max => k_is)
    (case z_min => k_is)
    (case z_abs => k_is)
    (case z_int => k_is)
    (case z_bool => k_is)
    (case z_str => k_is)
    (case z_tuple => k_is)
    (case z_list => k_is)
    (case z_dict => k_is)
    (case z_sum => k_is)
    (case z_all => k_is)
    (case z_any => k_is)
    (case z_repr => k_is)
    (case z_isinstance => k_is)
    (case z_zip => k_is)
    (case z_enumerate => k_is)
    (case z_IndexError => k_is)
    (case kg_n => k_is)
    (case kg_t => k_is)
    (case ns_WordsError => k_is)
    (case kC_WordsError => k_is)
    (case cl_WordsError => k_is)
    (case ty_WordsError => k_is)
    (case ex_WordsError => k_is)
    (case ss_WordsError => k_is)
    (case ga_WordsError => k_is)
    (case gg_WordsError => k_is)
    (case hd_WordsError => k_is)
    (case ha_WordsError => k_is)
    (case hm_WordsError => k_is)
    (case ns_InvalidWidth => k_is)
    (case kC_InvalidWidth => k_is)
    (case cl_InvalidWidth => k_is)
    (case ty_InvalidWidth => k_is)
    (case ex_InvalidWidth => k_is)
    (case ss_InvalidWidth => k_is)
    (case ga_InvalidWidth => k_is)
    (case gg_InvalidWidth => k_is)
    (case hd_InvalidWidth => k_is)
    (case ha_InvalidWidth => k_is)
    (case hm_InvalidWidth => k_is)
    (case ns_InvalidVector => k_is)
    (case kC_InvalidVector => k_is)
    (case cl_InvalidVector => k_is)
    (case ty_InvalidVector => k_is)
    (case ex_InvalidVector => k_is)
    (case ss_InvalidVector => k_is)
    (case ga_InvalidVector => k_is)
    (case gg_InvalidVector => k_is)
    (case hd_InvalidVector => k_is)
    (case ha_InvalidVector => k_is)
    (case hm_InvalidVector => k_is)
    (case ns_InvalidMatrix => k_is)
    (case kC_InvalidMatrix => k_is)
    (case cl_InvalidMatrix => k_is)
    (case ty_InvalidMatrix => k_is)
    (case ex_InvalidMatrix => k_is)
    (case ss_InvalidMatrix => k_is)
    (case ga_InvalidMatrix => k_is)
    (case gg_InvalidMatrix => k_is)
    (case hd_InvalidMatrix => k_is)
    (case ha_InvalidMatrix => k_is)
    (case hm_InvalidMatrix => k_is)
    (case ns_InvalidNumber => k_is)
    (case kC_InvalidNumber => k_is)
    (case cl_InvalidNumber => k_is)
    (case ty_InvalidNumber => k_is)
    (case ex_InvalidNumber => k_is)
    (case ss_InvalidNumber => k_is)
    (case ga_InvalidNumber => k_is)
    (case gg_InvalidNumber => k_is)
    (case hd_InvalidNumber => k_is)
    (case ha_InvalidNumber => k_is)
    (case hm_InvalidNumber => k_is)
    (case sb_InvalidWidth_IndexError => k_is)
    (case sb_InvalidVector_IndexError => k_is)
    (case sb_InvalidMatrix_IndexError => k_is)
    (case sb_InvalidWidth_InvalidMatrix => k_is)
    (case sb_InvalidVector_InvalidMatrix => k_is)
    (case sb_InvalidMatrix_InvalidMatrix => k_is)
    (case sb_InvalidWidth_InvalidNumber => k_is)
    (case sb_InvalidVector_InvalidNumber => k_is)
    (case sb_InvalidMatrix_InvalidNumber => k_is)
    (case sb_InvalidWidth_InvalidVector => k_is)
    (case sb_InvalidVector_InvalidVector => k_is)
    (case sb_InvalidMatrix_InvalidVector => k_is)
    (case sb_InvalidWidth_InvalidWidth => k_is)
    (case sb_InvalidVector_InvalidWidth => k_is)
    (case sb_InvalidMatrix_InvalidWidth => k_is)
    (case sb_InvalidWidth_WordsError => k_is)
    (case sb_InvalidVector_WordsError => k_is)
    (case sb_InvalidMatrix_WordsError => k_is)
    (case xc_InvalidWidth => k_exc)
    (case xc_InvalidVector => k_exc)
    (case xc_InvalidMatrix => k_exc)
    (case no_InvalidNumber => k_is)
    (case a0 => k_is)
    (case l0 => k_is)
    (case c0 => k_is)
    (case k0 => k_is)
    (case a1 => k_is)
    (case l1 => k_is)
    (case c1 => k_is)
    (case k1 => k_is)
    (case a2 => k_is)
    (case l2 => k_is)
    (case c2 => k_is)
    (case k2 => k_is)
    (case a3 => k_is)
    (case l3 => k_is)
    (case c3 => k_is)
    (case k3 => k_is)
    (case a4 => k_is)
    (case l4 => k_is)
    (case c4 => k_is)
    (case k4 => k_is)
    (case a5 => k_is)
    (case l5 => k_is)
    (case c5 => k_is)
    (case k5 => k_is)
    (case a6 => k_is)
    (case l6 => k_is)
    (case c6 => k_is)
    (case k6 => k_is)
    (case a7 => k_is)
    (case l7 => k_is)
    (case c7 => k_is)
    (case k7 => k_is)
    (case a8 => k_is)
    (case l8 => k_is)
    (case c8 => k_is)
    (case k8 => k_is)
    (case a9 => k_is)
    (case l9 => k_is)
    (case c9 => k_is)
    (case k9 => k_is)
    (case a10 => k_is)
    (case l10 => k_is)
    (case c10 => k_is)
    (case k10 => k_is)
    (case a11 => k_is)
    (case l11 => k_is)
    (case c11 => k_is)
    (case k11 => k_is)
    (case a12 => k_is)
    (case l12 => k_is)
    (case c12 => k_is)
    (case k12 => k_is)
    (case a13 => k_is)
    (case l13 => k_is)
    (case c13 => k_is)
    (case k13 => k_is)
    (case a14 => k_is)
    (case l14 => k_is)
    (case c14 => k_is)
    (case k14 => k_is)
    (case a15 => k_is)
    (case l15 => k_is)
    (case c15 => k_is)
    (case k15 => k_is)
    (case a16 => k_is)
    (case l16 => k_is)
    (case c16 => k_is)
    (case k16 => k_is)
    (case a17 => k_is)
    (case l17 => k_is)
    (case c17 => k_is)
    (case k17 => k_is)
    (case a18 => k_is)
    (case l18 => k_is)
    (case c18 => k_is)
    (case k18 => k_is)
    (case a19 => k_is)
    (case l19 => k_is)
    (case c19 => k_is)
    (case k19 => k_is)
    (case a20 => k_is)
    (case l20 => k_is)
    (case c20 => k_is)
    (case k20 => k_is)
    (case a21 => k_is)
    (case l21 => k_is)
    (case c21 => k_is)
    (case k21 => k_is)
    (case a22 => k_is)
    (case l22 => k_is)
    (case c22 => k_is)
    (case k22 => k_is)
    (case a23 => k_is)
    (case l23 => k_is)
    (case c23 => k_is)
    (case k23 => k_is)
    (case a24 => k_is)
    (case l24 => k_is)
    (case c24 => k_is)
    (case k24 => k_is)
    (case a25 => k_is)
    (case l25 => k_is)
    (case c25 => k_is)
    (case k25 => k_is)
    (case a26 => k_is)
    (case l26 => k_is)
    (case c26 => k_is)
    (case k26 => k_is)
    (case a27 => k_is)
    (case l27 => k_is)
    (case c27 => k_is)
    (case k27 => k_is)
    (case a28 => k_is)
    (case l28 => k_is)
    (case c28 => k_is)
    (case k28 => k_is)
    (case a29 => k_is)
    (case l29 => k_is)
    (case c29 => k_is)
    (case k29 => k_is)
    (case a30 => k_is)
    (case l30 => k_is)
    (case c30 => k_is)
    (case k30 => k_is)
    (case a31 => k_is)
    (case l31 => k_is)
    (case c31 => k_is)
    (case k31 => k_is)
    (case lc31 => k_is)
    (case e31 => rfl)
    (case ch31 => first | rfl | kernel_rfl | decide +kernel)
    (case no31 => first | rfl | kernel_rfl | decide +kernel)
    (case rq31 => first | rfl | decide +kernel)
    (case a32 => k_is)
    (case l32 => k_is)
    (case c32 => k_is)
    (case k32 => k_is)
    (case a33 => k_is)
    (case l33 => k_is)
    (case c33 => k_is)
    (case k33 => k_is)
    (case a34 => k_is)
    (case l34 => k_is)
    (case c34 => k_is)
    (case k34 => k_is)
#print axioms PySem.Challenge.cw_wordlaws_k14_whole_products_holds
