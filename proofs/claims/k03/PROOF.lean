import PyProof.Rows.All
import Wide.All
import OpenK.AllK
import Wide.FinOn
import HandS.ForMost
import HandS.Exc
import HandS.ExcOwn
import HandS.Star
import HandS.IsInst
import HandS.Wide
import HandS.WideMore
import HandS.WideBits
import HandS.Zip
import HandS.Defaults
import HandS.Lambda
import HandS.TupAny
import HandS.TupMul
import KE.DatumIndex
import HandS.RaiseMore
import HandS.NoneIn
import HandS.EndTab
import KE.KNestM
import HandS.ExcInit
import KE.KExcInit
import HandS.Codes
import HandS.ExcBuiltin
import HandS.WordsExc
import HandS.TryMany
import HandS.ExcIs
import HandS.ExcField
import KE.KExcIs
import HandS.Style
import HandS.TupLe
import HandS.SetFor
import HandS.Conv
import HandS.FStr
import PyProof.StrLawsRepr
import PySem.Challenge.RW_wordlaws_k03_levels_inverses_and_errors
import KE.KBits
set_option Elab.async false
set_option linter.all false
set_option maxRecDepth 100000
namespace Z
open PySem PySem.Spec PyProof.Rows L2

/-! ## Data in the abstract heap, apart from the addresses that a store owns -/
/-- o: what the store owns; g: what nobody may touch or name for a while -/
structure Ow where
  o : List Addr
  g : List Addr
def Ow.no (f : Ow) (a : Addr) : Prop := a ∉ f.o ∧ a ∉ f.g
/-- .. and it is not the modules' dict -/
def Ow.nx (f : Ow) (a : Addr) : Prop := a ∉ f.o ∧ a ∉ f.g ∧ a ≠ sysModules
theorem Ow.nx.no {f : Ow} {a : Addr} (h : f.nx a) : f.no a := ⟨h.1, h.2.1⟩
theorem Ow.no.nx {f : Ow} {a : Addr} (h : f.no a) (n : a ≠ sysModules) : f.nx a := ⟨h.1, h.2, n⟩
def Ow.add (f : Ow) (ex : List Addr) : Ow := ⟨f.o ++ ex, f.g⟩
def Ow.ban (f : Ow) (a : Addr) : Ow := ⟨f.o, a :: f.g⟩
theorem Ow.add_nil (f : Ow) : f.add [] = f := by
  cases f; unfold Ow.add; rw [List.append_nil]
theorem Ow.add_add (f : Ow) (x y : List Addr) : (f.add x).add y = f.add (x ++ y) := by
  cases f; unfold Ow.add; rw [List.append_assoc]
theorem Ow.no_add {f : Ow} {ex : List Addr} {a : Addr} (h : f.no a) (n : a ∉ ex) : (f.add ex).no a :=
  ⟨fun m => (List.mem_append.mp m).elim h.1 n, h.2⟩
theorem Ow.no_of_add {f : Ow} {ex : List Addr} {a : Addr} (h : (f.add ex).no a) : f.no a := ⟨fun m => h.1 (List.mem_append_left _ m), h.2⟩
theorem Ow.no_ban {f : Ow} {D a : Addr} (h : f.no a) (n : a ≠ D) : (f.ban D).no a := ⟨h.1, fun m => (List.mem_cons.mp m).elim n h.2⟩
theorem Ow.no_of_ban {f : Ow} {D a : Addr} (h : (f.ban D).no a) : f.no a := ⟨h.1, fun m => h.2 (List.mem_cons_of_mem _ m)⟩
def kd : Key → PyData
  | .inl i => .int i
  | .inr x => .str x
/-- a list's items may be read at a, and nobody who owns will change them -/
def LL (K : PySem.W.Frag) (f : Ow) (H : Hp) (a : Addr) (xs : List V) : Prop := H a = some (.lst xs) ∧ f.nx a
/-- a list from outside, read only -/
def LS (K : PySem.W.Frag) (f : Ow) (H : Hp) (a : Addr) (xs : List V) : Prop :=
  (Rd H a (.lst xs) ∧ f.no a) ∨ (∃ o its n, List.lookup a K = some o ∧ o.cls = Value.type "list" ∧ o.dict = none ∧
    o.data = Data.seq its n ∧ its.size ≤ sizeLine ∧ Vals xs its.toList)
def LT (K : PySem.W.Frag) (f : Ow) (H : Hp) (a : Addr) (xs : List V) : Prop :=
  (Rd H a (.tup xs) ∧ f.nx a) ∨ (∃ o its n, List.lookup a K = some o ∧ o.cls = Value.type "tuple" ∧
    o.data = Data.seq its n ∧ its.size ≤ sizeLine ∧ Vals xs its.toList)
theorem LL.sq {K : PySem.W.Frag} {f : Ow} {H : Hp} {a : Addr} {xs : List V} (h : LL K f H a xs) : SqL K H a xs := .inl (.inl h.1)
theorem LS.sq {K : PySem.W.Frag} {f : Ow} {H : Hp} {a : Addr} {xs : List V} (h : LS K f H a xs) : SqL K H a xs :=
  h.imp (fun z => z.1) id
theorem LT.sq {K : PySem.W.Frag} {f : Ow} {H : Hp} {a : Addr} {xs : List V} (h : LT K f H a xs) : SqT K H a xs :=
  h.imp (fun z => z.1) id

mutual
inductive Is (K : PySem.W.Frag) (f : Ow) (H : Hp) : V → PyData → Prop
  | non : Is K f H .non .none
  | bl (b : Bool) : Is K f H (.bl b) (.bool b)
  | int (i : Int) : Is K f H (.int i) (.int i)
  | str (x : Str) : Is K f H (.str x) (.str x)
  | lst {a : Addr} {xs : List V} {ds : List PyData} : LL K f H a xs → IsAll K f H xs ds → Is K f H (.ref a) (.list ds)
  | tup {a : Addr} {xs : List V} {ds : List PyData} : LT K f H a xs → IsAll K f H xs ds → Is K f H (.ref a) (.tuple ds)
  | dic {a : Addr} {kvs : List (Key × V)} {ds : List (PyData × PyData)} : Rd H a (.dK kvs) → f.nx a → IsKv K f H kvs ds → Is K f H (.ref a) (.dict ds)
inductive IsAll (K : PySem.W.Frag) (f : Ow) (H : Hp) : List V → List PyData → Prop
  | nil : IsAll K f H [] []
  | cons {v : V} {vs : List V} {d : PyData} {ds : List PyData} : Is K f H v d → IsAll K f H vs ds → IsAll K f H (v :: vs) (d :: ds)
inductive IsKv (K : PySem.W.Frag) (f : Ow) (H : Hp) : List (Key × V) → List (PyData × PyData) → Prop
  | nil : IsKv K f H [] []
  | cons {k : Key} {v : V} {vs : List (Key × V)} {d : PyData} {ds : List (PyData × PyData)} : Is K f H v d → IsKv K f H vs ds → IsKv K f H ((k, v) :: vs) ((kd k, d) :: ds)
end

/-- what is not owned stays; what is neither owned nor banned stays -/
def Kp (f : Ow) (H H' : Hp) : Prop := ∀ a o, a ∉ f.o → H a = some o → H' a = some o
def Kq (f : Ow) (H H' : Hp) : Prop := ∀ a o, f.no a → H a = some o → H' a = some o
theorem Kp.q {f : Ow} {H H' : Hp} (k : Kp f H H') : Kq f H H' := fun a o n e => k a o n.1 e
theorem Kp.refl (f : Ow) (H : Hp) : Kp f H H := fun _ _ _ h => h
theorem Kq.refl (f : Ow) (H : Hp) : Kq f H H := fun _ _ _ h => h
theorem Kp.trans {f : Ow} {H H1 H2 : Hp} (a : Kp f H H1) (b : Kp f H1 H2) : Kp f H H2 := fun c o n h => b c o n (a c o n h)
theorem Kp.new {f : Ow} {H : Hp} {p : Addr} {o : HO} (h : H p = none) : Kp f H (upd H p o) := fun a u _ e => by
  rw [upd_ne (ne_of_none e h)]; exact e
theorem Kp.of_same {f : Ow} {H H' : Hp} (h : Same H H') : Kp f H H' := fun a o _ e => h a o e
theorem Rd.kq {f : Ow} {H H' : Hp} {a : Addr} {u : HO} (h : Rd H a u) (n : f.no a) (k : Kq f H H') : Rd H' a u := by
  rcases h with h | ⟨o, h⟩
  · exact .inl (k _ _ n h)
  · exact .inr ⟨o, k _ _ n h⟩
theorem Rd.ne {H : Hp} {a : Addr} {u : HO} (h : Rd H a u) : ∃ o, H a = some o := by
  rcases h with h | ⟨o, h⟩
  · exact ⟨_, h⟩
  · exact ⟨_, h⟩
/-- f' bans and owns beside f only what was free -/
def Gr (f f' : Ow) (H : Hp) : Prop := ∀ a o, f.no a → H a = some o → f'.no a
theorem Gr.refl (f : Ow) (H : Hp) : Gr f f H := fun _ _ h _ => h
theorem Gr.app {f : Ow} {g : List Addr} {H : Hp} (h : ∀ a ∈ g, H a = none) : Gr f (f.add g) H := fun a o n e => Ow.no_add n fun m => by
  rw [h a m] at e; cases e
theorem Gr.sub {f : Ow} {g : List Addr} {H : Hp} : Gr (f.add g) f H := fun _ _ n _ => Ow.no_of_add n
theorem Gr.ban {f : Ow} {D : Addr} {H : Hp} (h : H D = none) : Gr f (f.ban D) H := fun a o n e => Ow.no_ban n (ne_of_none e h)
theorem Gr.unban {f : Ow} {D : Addr} {H : Hp} : Gr (f.ban D) f H := fun _ _ n _ => Ow.no_of_ban n

section
variable {K : PySem.W.Frag} {f f' : Ow} {H H' : Hp}
theorem LL.keep {a : Addr} {xs : List V} (h : LL K f H a xs) (k : Kq f H H') (g : Gr f f' H) : LL K f' H' a xs :=
  ⟨k _ _ h.2.no h.1, (g _ _ h.2.no h.1).nx h.2.2.2⟩
theorem LS.keep {a : Addr} {xs : List V} (h : LS K f H a xs) (k : Kq f H H') (g : Gr f f' H) : LS K f' H' a xs := by
  rcases h with ⟨h, n⟩ | h
  · obtain ⟨o, e⟩ := Rd.ne h
    exact .inl ⟨Rd.kq h n k, g a o n e⟩
  · exact .inr h
theorem LT.keep {a : Addr} {xs : List V} (h : LT K f H a xs) (k : Kq f H H') (g : Gr f f' H) : LT K f' H' a xs := by
  rcases h with ⟨h, n⟩ | h
  · obtain ⟨o, e⟩ := Rd.ne h
    exact .inl ⟨Rd.kq h n.no k, (g a o n.no e).nx n.2.2⟩
  · exact .inr h
mutual
theorem Is.keep (k : Kq f H H') (g : Gr f f' H) : ∀ {v : V} {d : PyData}, Is K f H v d → Is K f' H' v d
  | _, _, .non => .non
  | _, _, .bl b => .bl b
  | _, _, .int i => .int i
  | _, _, .str x => .str x
  | _, _, .lst h r => .lst (h.keep k g) (IsAll.keep k g r)
  | _, _, .tup h r => .tup (h.keep k g) (IsAll.keep k g r)
  | _, _, .dic h n r => .dic (Rd.kq h n.no k) (let ⟨o, e⟩ := Rd.ne h; (g _ o n.no e).nx n.2.2) (IsKv.keep k g r)
theorem IsAll.keep (k : Kq f H H') (g : Gr f f' H) : ∀ {v : List V} {d : List PyData}, IsAll K f H v d → IsAll K f' H' v d
  | _, _, .nil => .nil
  | _, _, .cons h r => .cons (Is.keep k g h) (IsAll.keep k g r)
theorem IsKv.keep (k : Kq f H H') (g : Gr f f' H) : ∀ {v : List (Key × V)} {d : List (PyData × PyData)}, IsKv K f H v d → IsKv K f' H' v d
  | _, _, .nil => .nil
  | _, _, .cons h r => .cons (Is.keep k g h) (IsKv.keep k g r)
end
theorem IsAll.len : ∀ {vs : List V} {ds : List PyData}, IsAll K f H vs ds → vs.length = ds.length
  | _, _, .nil => rfl
  | _, _, .cons _ r => congrArg (· + 1) (IsAll.len r)
theorem IsAll.get : ∀ {vs : List V} {ds : List PyData} {i : Nat} {d : PyData}, IsAll K f H vs ds → ds[i]? = some d → ∃ v, vs[i]? = some v ∧ Is K f H v d
  | _, _, _, _, .nil, e => by simp at e
  | _, _, 0, _, .cons h _, e => by
    simp at e; subst e; exact ⟨_, rfl, h⟩
  | _, _, i + 1, d, .cons _ r, e => by
    obtain ⟨v, h1, h2⟩ := IsAll.get (i := i) (d := d) r (by simpa using e)
    exact ⟨v, by simpa using h1, h2⟩
theorem IsAll.app : ∀ {vs ws : List V} {ds es : List PyData}, IsAll K f H vs ds → IsAll K f H ws es → IsAll K f H (vs ++ ws) (ds ++ es)
  | _, _, _, _, .nil, s => s
  | _, _, _, _, .cons h r, s => .cons h (IsAll.app r s)
theorem IsAll.set : ∀ {vs : List V} {ds : List PyData} {v : V} {d : PyData} (i : Nat), IsAll K f H vs ds → Is K f H v d → IsAll K f H (vs.set i v) (ds.set i d)
  | _, _, _, _, _, .nil, _ => .nil
  | _, _, _, _, 0, .cons _ r, h => .cons h r
  | _, _, _, _, i + 1, .cons q r, h => .cons q (IsAll.set i r h)
theorem IsAll.take : ∀ {vs : List V} {ds : List PyData} (n : Nat), IsAll K f H vs ds → IsAll K f H (vs.take n) (ds.take n)
  | _, _, 0, _ => .nil
  | _, _, _ + 1, .nil => .nil
  | _, _, n + 1, .cons h r => .cons h (IsAll.take n r)
theorem IsAll.drop : ∀ {vs : List V} {ds : List PyData} (n : Nat), IsAll K f H vs ds → IsAll K f H (vs.drop n) (ds.drop n)
  | _, _, 0, r => r
  | _, _, _ + 1, .nil => .nil
  | _, _, n + 1, .cons _ r => IsAll.drop n r
theorem IsAll.ints : ∀ {vs : List V} {ns : List Int}, IsAll K f H vs (ns.map .int) → vs = ns.map V.int
  | _, [], .nil => rfl
  | _, n :: ns, .cons (.int _) r => congrArg (V.int n :: ·) (IsAll.ints r)
theorem IsAll.of_ints : ∀ ns : List Int, IsAll K f H (ns.map V.int) (ns.map .int)
  | [] => .nil
  | n :: ns => .cons (.int n) (IsAll.of_ints ns)
theorem IsAll.bools : ∀ {vs : List V} {ns : List Bool}, IsAll K f H vs (ns.map .bool) → vs = ns.map V.bl
  | _, [], .nil => rfl
  | _, n :: ns, .cons (.bl _) r => congrArg (V.bl n :: ·) (IsAll.bools r)

/-! ## to the layer's Dp -/
def noDict : PyData → Bool
  | .dict _ => false
  | _ => true
mutual
theorem Is.dp : ∀ {d : PyData} {v : V}, Is K f H v d → d.hasDict = false → Dp K H v d
  | .none, _, h, _ => by cases h; exact .non
  | .bool b, _, h, _ => by cases h; exact .bl b
  | .int i, _, h, _ => by cases h; exact .int i
  | .str x, _, h, _ => by cases h; exact .str x
  | .list ds, _, h, n => by
    cases h with
    | lst h r => exact .lst h.sq (IsAll.dp r (by simpa [PyData.hasDict] using n))
  | .tuple ds, _, h, n => by
    cases h with
    | tup h r => exact .tup h.sq (IsAll.dp r (by simpa [PyData.hasDict] using n))
  | .dict _, _, h, n => by simp [PyData.hasDict] at n
theorem IsAll.dp : ∀ {ds : List PyData} {vs : List V}, IsAll K f H vs ds → PyData.hasDictAll ds = false → DpAll K H vs ds
  | [], _, h, _ => by cases h; exact .nil
  | d :: ds, _, h, n => by
    cases h with
    | cons h r =>
      have n' : d.hasDict = false ∧ PyData.hasDictAll ds = false := by simpa [PyData.hasDictAll] using n
      exact .cons (Is.dp h n'.1) (IsAll.dp r n'.2)
end
end

/-! ## Slots and stores -/
/-- an exception: its class by name, what it keeps -/
structure Exn where
  cls : Str
  fld : Option (Str × PyData)
inductive Ob where
  | lst (xs : List PyData)
  | dct (kvs : List (Key × PyData))
  | tab (q : Str) (P : Addr)
abbrev Sto := List Ob
inductive Res (α : Type) where
  | ok (a : α) (S : Sto)
  | exc (x : Exn) (S : Sto)
/-- a lambda's meaning where it was made -/
abbrev Th := Sto → Option (Res PyData)
inductive SV where
  | d (x : PyData)
  | r (i : Nat)
  | s (ns : List Int)
  | k (a : Addr) (x : Exn) (cls : Value) (d : Option Addr)
  | t (p c : Addr) (q : Str) (tl : XK → Hp → VK → Prop) (th : Th)
abbrev Sg := List (Option SV)
inductive IsKd (K : PySem.W.Frag) (f : Ow) (H : Hp) : List (Key × V) → List (Key × PyData) → Prop
  | nil : IsKd K f H [] []
  | cons {k : Key} {v : V} {vs : List (Key × V)} {d : PyData} {ds : List (Key × PyData)} : Is K f H v d → IsKd K f H vs ds → IsKd K f H ((k, v) :: vs) ((k, d) :: ds)
def ObAt (K : PySem.W.Frag) (f : Ow) (H : Hp) (a : Addr) : Ob → Prop
  | .lst ds => ∃ vs, H a = some (.lst vs) ∧ IsAll K f H vs ds
  | .dct ds => ∃ kvs, H a = some (.dK kvs) ∧ IsKd K f H kvs ds
  | .tab q P => a = P ∧ ∃ ps, H a = some (.tbl ps) ∧ TriplesOk ps.toList ∧ ∀ pos cv, codeAmong pos ps.toList = some cv → ∃ c, cv = .ref c ∧ H c = some (LamX.CodeO c q) ∧ f.nx c
structure StoR (K : PySem.W.Frag) (f : Ow) (S : Sto) (H : Hp) : Prop where
  len : f.o.length = S.length
  nd : f.o.Nodup
  at_ : ∀ (i : Nat) (o : Ob) (a : Addr), S[i]? = some o → f.o[i]? = some a → ObAt K f H a o
  dj : ∀ a ∈ f.g, a ∉ f.o
  tr : ∀ a ∈ f.g, ∃ o, H a = some o
  sy : sysModules ∉ f.o ∧ ∃ o, H sysModules = some o
/-- how an exception stands in the heap -/
def ExR (K : PySem.W.Frag) (f : Ow) (H : Hp) (cls : Value) (d : Option Addr) (x : Exn) : Prop :=
  PySem.W.nsIn K mainGlobals x.cls = some (some cls) ∧ match x.fld with
    | none => d = none
    | some (n, dd) => ∃ da v, d = some da ∧ H da = some (.xd [(n, v)]) ∧ f.nx da ∧ Is K f H v dd
theorem ExR.keep {K : PySem.W.Frag} {f f' : Ow} {H H' : Hp} {cls : Value} {d : Option Addr} {x : Exn} (h : ExR K f H cls d x) (k : Kq f H H') (g : Gr f f' H) : ExR K f' H' cls d x := by
  obtain ⟨c, fl⟩ := x
  cases fl with
  | none => exact h
  | some q =>
    obtain ⟨n, dd⟩ := q
    obtain ⟨h1, da, v, e1, e2, e3, e4⟩ := h
    exact ⟨h1, da, v, e1, k _ _ e3.no e2, (g _ _ e3.no e2).nx e3.2.2, Is.keep k g e4⟩
/-- f' owns first what f owns -/
def Pf (f f' : Ow) : Prop := ∀ (i : Nat) (a : Addr), f.o[i]? = some a → f'.o[i]? = some a
theorem Pf.trans {f f' f'' : Ow} (a : Pf f f') (b : Pf f' f'') : Pf f f'' := fun i x e => b i x (a i x e)
/-- what the lambda's reading gives for its meaning -/
def ThR (K : PySem.W.Frag) (f : Ow) (H : Hp) (tl : XK → Hp → VK → Prop) (th : Th) : Prop := ∀ (f2 : Ow) (H2 : Hp) (S2 : Sto) (r : Res PyData) (E : XK) (Q : VK), Kq f H H2 → Gr f f2 H → Pf f f2 → StoR K f2 S2 H2 → th S2 = some r →
  (match r with
    | .ok v S3 => ∀ u H3, StoR K f2 S3 H3 → Kp f2 H2 H3 → Is K f2 H3 u v → Q u H3
    | .exc x S3 => ∀ cls d H3, StoR K f2 S3 H3 → Kp f2 H2 H3 → ExR K f2 H3 cls d x → E cls d H3) → tl E H2 Q
theorem ThR.keep {K : PySem.W.Frag} {f f' : Ow} {H H' : Hp} {tl : XK → Hp → VK → Prop} {th : Th} (h : ThR K f H tl th) (k : Kq f H H') (g : Gr f f' H) (p : Pf f f') : ThR K f' H' tl th := fun f2 H2 S2 r E Q k2 g2 p2 hS he hr =>
  h f2 H2 S2 r E Q (fun a o n e => k2 a o (g a o n e) (k a o n e)) (fun a o n e => g2 a o (g a o n e) (k a o n e)) (p.trans p2) hS he hr
def SvR (K : PySem.W.Frag) (f : Ow) (H : Hp) (v : V) : SV → Prop
  | .d x => Is K f H v x
  | .r i => ∃ a, f.o[i]? = some a ∧ v = .ref a
  | .s ns => ∃ a, v = .ref a ∧ LS K f H a (ns.map V.int)
  | .k a x cls d => v = .ref a ∧ ExR K f H cls d x
  | .t p c q tl th => v = .ref p ∧ H c = some (LamX.CodeO c q) ∧ f.nx c ∧ ThR K f H tl th
/-- the frame's slots -/
structure EnvR (K : PySem.W.Frag) (f : Ow) (H : Hp) (sv : L2.St) (σ : Sg) : Prop where
  len : sv.length = σ.length
  get : ∀ (i : Nat) (x : SV), σ[i]? = some (some x) → ∃ v, sv[i]? = some (some v) ∧ SvR K f H v x
section
variable {K : PySem.W.Frag} {f f' : Ow} {H H' : Hp}
theorem app_get {f ex : List Addr} {i : Nat} {a : Addr} (e : f[i]? = some a) : (f ++ ex)[i]? = some a := by
  rw [List.getElem?_append_left (List.getElem?_eq_some_iff.mp e).1]; exact e
theorem Pf.refl (f : Ow) : Pf f f := fun _ _ e => e
theorem Pf.add (f : Ow) (ex : List Addr) : Pf f (f.add ex) := fun _ _ e => app_get e
theorem Pf.ban (f : Ow) (D : Addr) : Pf f (f.ban D) := fun _ _ e => e
theorem Pf.unban (f : Ow) (D : Addr) : Pf (f.ban D) f := fun _ _ e => e
theorem SvR.keep {v : V} {x : SV} (h : SvR K f H v x) (k : Kq f H H') (g : Gr f f' H) (p : Pf f f') : SvR K f' H' v x := by
  cases x with
  | d x => exact Is.keep k g h
  | r i =>
    obtain ⟨a, e, h⟩ := h
    exact ⟨a, p i a e, h⟩
  | s ns =>
    obtain ⟨a, e, h⟩ := h
    exact ⟨a, e, h.keep k g⟩
  | k a x cls d => exact ⟨h.1, h.2.keep k g⟩
  | t q c nm tl th => exact ⟨h.1, k _ _ h.2.2.1.no h.2.1, (g _ _ h.2.2.1.no h.2.1).nx h.2.2.1.2.2, h.2.2.2.keep k g p⟩
theorem SvR.kp {v : V} {x : SV} (h : SvR K f H v x) (k : Kp f H H') : SvR K f H' v x := h.keep k.q (Gr.refl _ _) (Pf.refl _)
theorem EnvR.keep {sv : L2.St} {σ : Sg} (h : EnvR K f H sv σ) (k : Kq f H H') (g : Gr f f' H) (p : Pf f f') : EnvR K f' H' sv σ :=
  ⟨h.len, fun i x e => let ⟨v, e1, r⟩ := h.get i x e; ⟨v, e1, r.keep k g p⟩⟩
theorem EnvR.kp {sv : L2.St} {σ : Sg} (h : EnvR K f H sv σ) (k : Kp f H H') : EnvR K f H' sv σ := h.keep k.q (Gr.refl _ _) (Pf.refl _)
theorem IsKd.keep (k : Kq f H H') (g : Gr f f' H) : ∀ {v : List (Key × V)} {d : List (Key × PyData)}, IsKd K f H v d → IsKd K f' H' v d
  | _, _, .nil => .nil
  | _, _, .cons h r => .cons (Is.keep k g h) (IsKd.keep k g r)
theorem ObAt.keep {a : Addr} {o : Ob} (h : ObAt K f H a o) (e : H' a = H a) (k : Kq f H H') (g : Gr f f' H) : ObAt K f' H' a o := by
  cases o with
  | lst ds =>
    obtain ⟨vs, h1, h2⟩ := h
    exact ⟨vs, e.trans h1, h2.keep k g⟩
  | dct ds =>
    obtain ⟨vs, h1, h2⟩ := h
    exact ⟨vs, e.trans h1, h2.keep k g⟩
  | tab q P =>
    obtain ⟨h0, ps, h1, h2, h3⟩ := h
    refine ⟨h0, ps, e.trans h1, h2, fun pos cv hc => ?_⟩
    obtain ⟨c, e1, e2, e3⟩ := h3 pos cv hc
    exact ⟨c, e1, k _ _ e3.no e2, (g _ _ e3.no e2).nx e3.2.2⟩
/-- an owned address holds something -/
theorem StoR.some_ {S : Sto} (h : StoR K f S H) {a : Addr} (m : a ∈ f.o) : ∃ o, H a = some o := by
  obtain ⟨i, hi, e⟩ := List.getElem_of_mem m
  have e1 : f.o[i]? = some a := by rw [List.getElem?_eq_getElem hi, e]
  have hi2 : i < S.length := h.len ▸ hi
  have q := h.at_ i S[i] a (List.getElem?_eq_getElem hi2) e1
  generalize S[i] = o at q
  cases o with
  | lst ds => obtain ⟨_, z, _⟩ := q; exact ⟨_, z⟩
  | dct ds => obtain ⟨_, z, _⟩ := q; exact ⟨_, z⟩
  | tab t P => obtain ⟨_, _, z, _⟩ := q; exact ⟨_, z⟩
theorem StoR.free {S : Sto} (h : StoR K f S H) {p : Addr} (n : H p = none) : f.nx p := by
  refine ⟨fun m => ?_, fun m => ?_, fun m => ?_⟩
  · obtain ⟨o, e⟩ := h.some_ m
    rw [n] at e; cases e
  · obtain ⟨o, e⟩ := h.tr p m
    rw [n] at e; cases e
  · obtain ⟨o, e⟩ := h.sy.2
    rw [← m, n] at e; cases e
/-- an object is laid that no store owns -/
theorem StoR.laid {S : Sto} (h : StoR K f S H) {p : Addr} {o : HO} (n : H p = none) : StoR K f S (upd H p o) :=
  ⟨h.len, h.nd, fun i ob a e1 e2 => (h.at_ i ob a e1 e2).keep (upd_ne (fun z => (h.free n).1 (z ▸ List.mem_of_getElem? e2))) (Kp.new n).q (Gr.refl _ _), h.dj, fun a m => by
    obtain ⟨x, e⟩ := h.tr a m
    exact ⟨x, Kp.new n a x (h.dj a m) e⟩, h.sy.1, let ⟨x, e⟩ := h.sy.2; ⟨x, Kp.new n _ x h.sy.1 e⟩⟩
/-- .. that the store owns -/
theorem StoR.own {S : Sto} (h : StoR K f S H) {p : Addr} {o : HO} {ob : Ob} (n : H p = none) (q : ObAt K (f.add [p]) (upd H p o) p ob) : StoR K (f.add [p]) (S ++ [ob]) (upd H p o) := by
  have np : ∀ b ∈ [p], H b = none := fun b hb => by
    have e : b = p := by simpa using hb
    rw [e]; exact n
  refine ⟨by simp [Ow.add, h.len], ?_, fun i u a e1 e2 => ?_, fun a m z => ?_, fun a m => ?_, (fun z => (List.mem_append.mp (show sysModules ∈ f.o ++ [p] from z)).elim h.sy.1 fun z => (h.free n).2.2 (List.mem_singleton.mp z).symm), let ⟨x, e⟩ := h.sy.2; ⟨x, Kp.new n _ x h.sy.1 e⟩⟩
  · refine List.nodup_append.mpr ⟨h.nd, by simp, fun a ha b hb => ?_⟩
    have e : b = p := by simpa using hb
    subst e
    exact fun z => (h.free n).1 (z ▸ ha)
  · have e2 : (f.o ++ [p])[i]? = some a := e2
    by_cases hi : i < f.o.length
    · rw [List.getElem?_append_left hi] at e2
      rw [List.getElem?_append_left (h.len ▸ hi)] at e1
      exact (h.at_ i u a e1 e2).keep (upd_ne (fun z => (h.free n).1 (z ▸ List.mem_of_getElem? e2))) (Kp.new n).q (Gr.app np)
    · rw [List.getElem?_append_right (by omega)] at e2
      rw [List.getElem?_append_right (by rw [← h.len]; omega)] at e1
      have hi2 : i - f.o.length = 0 := by
        have := (List.getElem?_eq_some_iff.mp e2).1
        simp at this
        omega
      rw [hi2] at e2
      rw [← h.len, hi2] at e1
      simp at e1 e2
      subst e1 e2
      exact q
  · rcases List.mem_append.mp z with z | z
    · exact h.dj a m z
    · have e : a = p := by simpa using z
      exact (h.free n).2.1 (e ▸ m)
  · obtain ⟨x, e⟩ := h.tr a m
    exact ⟨x, Kp.new n a x (h.dj a m) e⟩
/-- an owned object is changed -/
theorem StoR.put {S : Sto} (h : StoR K f S H) {i : Nat} {p : Addr} {o : HO} {ob : Ob} (e : f.o[i]? = some p) (q : ObAt K f (upd H p o) p ob) : StoR K f (S.set i ob) (upd H p o) := by
  have kp : Kp f H (upd H p o) := fun b x nb eb => by
    have hb : b ≠ p := fun z => nb (by rw [z]; exact List.mem_of_getElem? e)
    rw [upd_ne hb]
    exact eb
  refine ⟨by simp [h.len], h.nd, fun j u a e1 e2 => ?_, h.dj, fun a m => let ⟨x, ex⟩ := h.tr a m; ⟨x, kp a x (h.dj a m) ex⟩, h.sy.1, let ⟨x, ex⟩ := h.sy.2; ⟨x, kp _ x h.sy.1 ex⟩⟩
  by_cases hj : i = j
  · subst hj
    rw [e] at e2; cases e2
    have hi : i < S.length := h.len ▸ (List.getElem?_eq_some_iff.mp e).1
    rw [List.getElem?_set_self hi] at e1
    cases e1
    exact q
  · rw [List.getElem?_set_ne hj] at e1
    have hne : a ≠ p := fun z => hj (nd_ix h.nd e (z ▸ e2))
    exact (h.at_ j u a e1 e2).keep (upd_ne hne) kp.q (Gr.refl _ _)
theorem Kp.put {i : Nat} {p : Addr} {o : HO} (e : f.o[i]? = some p) : Kp f H (upd H p o) := fun b x nb eb => by
  have hb : b ≠ p := fun z => nb (by rw [z]; exact List.mem_of_getElem? e)
  rw [upd_ne hb]; exact eb
/-- a banned object is changed: nobody looks -/
theorem StoR.sly {S : Sto} {D : Addr} {x y : HO} (h : StoR K (f.ban D) S H) (e : H D = some x) : StoR K (f.ban D) S (upd H D y) := by
  have hD : D ∉ f.o := h.dj D List.mem_cons_self
  have kq : Kq (f.ban D) H (upd H D y) := fun a o n ea => by
    have ne : a ≠ D := fun z => n.2 (by rw [z]; exact List.mem_cons_self)
    rw [upd_ne ne]; exact ea
  refine ⟨h.len, h.nd, fun i ob a e1 e2 => (h.at_ i ob a e1 e2).keep (upd_ne fun z => hD (z ▸ List.mem_of_getElem? e2)) kq (Gr.refl _ _), h.dj, fun a m => ?_, h.sy.1, (by
    by_cases hs : sysModules = D
    · exact ⟨y, by rw [hs, upd_same]⟩
    · obtain ⟨z, ez⟩ := h.sy.2
      exact ⟨z, by rw [upd_ne hs]; exact ez⟩)⟩
  by_cases ha : a = D
  · subst ha; exact ⟨y, upd_same⟩
  · obtain ⟨z, ez⟩ := h.tr a m
    exact ⟨z, by rw [upd_ne ha]; exact ez⟩
theorem Kq.sly {D : Addr} {y : HO} : Kq (f.ban D) H (upd H D y) := fun a o n ea => by
  have ne : a ≠ D := fun z => n.2 (by rw [z]; exact List.mem_cons_self)
  rw [upd_ne ne]; exact ea
/-- a new object is banned -/
theorem StoR.ban {S : Sto} {D : Addr} {x : HO} (h : StoR K f S H) (n : H D = none) : StoR K (f.ban D) S (upd H D x) := by
  refine ⟨h.len, h.nd, fun i ob a e1 e2 => (h.at_ i ob a e1 e2).keep (upd_ne (fun z => (h.free n).1 (z ▸ List.mem_of_getElem? e2))) (Kp.new n).q (Gr.ban n), fun a m z => ?_, fun a m => ?_, h.sy.1, let ⟨x, e⟩ := h.sy.2; ⟨x, Kp.new (f := f) n _ x h.sy.1 e⟩⟩
  · rcases List.mem_cons.mp m with m | m
    · exact (h.free n).1 (m ▸ z)
    · exact h.dj a m z
  · rcases List.mem_cons.mp m with m | m
    · subst m; exact ⟨x, upd_same⟩
    · obtain ⟨z, e⟩ := h.tr a m
      exact ⟨z, Kp.new (f := f) n a z (h.dj a m) e⟩
theorem StoR.unban {S : Sto} {D : Addr} (h : StoR K (f.ban D) S H) : StoR K f S H :=
  ⟨h.len, h.nd, fun i ob a e1 e2 => (h.at_ i ob a e1 e2).keep rfl (Kq.refl _ _) Gr.unban, fun a m => h.dj a (List.mem_cons_of_mem _ m), fun a m => h.tr a (List.mem_cons_of_mem _ m), h.sy⟩
theorem StoR.has {S : Sto} (h : StoR K f S H) {i : Nat} {o : Ob} (e1 : S[i]? = some o) : ∃ a, f.o[i]? = some a := by
  have hi : i < f.o.length := h.len ▸ (List.getElem?_eq_some_iff.mp e1).1
  exact ⟨f.o[i], List.getElem?_eq_getElem hi⟩
/-- the store's end is given up -/
theorem StoR.cut {S : Sto} {ex : List Addr} (h : StoR K (f.add ex) S H) : StoR K f (S.take f.o.length) H := by
  have hl : f.o.length ≤ S.length := by rw [← h.len]; simp [Ow.add]
  refine ⟨by simp [hl], (List.nodup_append.mp h.nd).1, fun i o a e1 e2 => ?_, fun a m z => h.dj a m (List.mem_append_left _ z), h.tr, fun z => h.sy.1 (List.mem_append_left _ z), h.sy.2⟩
  have hi := (List.getElem?_eq_some_iff.mp e2).1
  rw [List.getElem?_take_of_lt hi] at e1
  exact (h.at_ i o a e1 (app_get e2)).keep rfl (Kq.refl _ _) Gr.sub
/-- .. but for one object of it -/
theorem StoR.cut1 {S : Sto} {ex : List Addr} {i : Nat} {o : Ob} {p : Addr} (h : StoR K (f.add ex) S H) (e : S[i]? = some o) (ep : (f.o ++ ex)[i]? = some p) (hi : f.o.length ≤ i) : StoR K (f.add [p]) (S.take f.o.length ++ [o]) H := by
  have c := h.cut
  have hp : p ∈ ex := by
    rw [List.getElem?_append_right hi] at ep
    exact List.mem_of_getElem? ep
  have gr : Gr (f.add ex) (f.add [p]) H := fun a x n _ => ⟨fun m => by
    rcases List.mem_append.mp m with m | m
    · exact n.1 (List.mem_append_left _ m)
    · have e' : a = p := by simpa using m
      exact n.1 (List.mem_append_right _ (e' ▸ hp)), n.2⟩
  have hl : f.o.length ≤ S.length := by rw [← h.len]; simp [Ow.add]
  refine ⟨by simp [Ow.add, hl], ?_, fun j u a e1 e2 => ?_, fun a m z => ?_, h.tr, (fun z => (List.mem_append.mp z).elim (fun z => h.sy.1 (List.mem_append_left _ z)) fun z => h.sy.1 (by
    have e' : sysModules = p := by simpa using z
    rw [e']; exact List.mem_append_right _ hp)), h.sy.2⟩
  · refine List.nodup_append.mpr ⟨c.nd, by simp, fun a ha b hb => ?_⟩
    have e' : b = p := by simpa using hb
    subst e'
    exact fun z => (List.nodup_append.mp h.nd).2.2 a ha b hp z
  · have e2 : (f.o ++ [p])[j]? = some a := e2
    by_cases hj : j < f.o.length
    · rw [List.getElem?_append_left hj] at e2
      rw [List.getElem?_append_left (by rw [List.length_take]; omega), List.getElem?_take_of_lt hj] at e1
      exact (h.at_ j u a e1 (app_get e2)).keep rfl (Kq.refl _ _) gr
    · rw [List.getElem?_append_right (by omega)] at e2
      rw [List.getElem?_append_right (by rw [List.length_take]; omega)] at e1
      have hz : j - f.o.length = 0 := by
        have := (List.getElem?_eq_some_iff.mp e2).1
        simp at this
        omega
      rw [hz] at e2
      rw [List.length_take, show j - min f.o.length S.length = 0 by omega] at e1
      simp at e1 e2
      subst e1 e2
      exact (h.at_ i _ _ e ep).keep rfl (Kq.refl _ _) gr
  · rcases List.mem_append.mp z with z | z
    · exact h.dj a m (List.mem_append_left _ z)
    · have e' : a = p := by simpa using z
      exact h.dj a m (List.mem_append_right _ (e' ▸ hp))
end
end Z
set_option maxRecDepth 100000
namespace Z
open PySem PySem.Spec PyProof.Rows L2

/-! ## what a piece of a program yields -/
abbrev Ex := Sg → Sto → Option (Res SV)
abbrev Exs := Sg → Sto → Option (Res (List SV))
/-- a test -/
abbrev Tst := Sg → Sto → Option (Res Bool)
/-- an expression that makes a new list or dict -/
abbrev Nw := Sg → Sto → Option (Res Ob)

/-- a context in which all this is said -/
structure Gd (X : Cx) (W : WX) (k : Nat) : Prop where
  hr : Room k X.A
  gd : X.A.guards = some []
  calm : X.calm = true
  nd : X.N.Nodup
  tk : Takes X W
  po : PassesOwn (model X.prog X.w) X.A X.env X.xe
/-- less: what holds in the suite of an except clause too -/
structure Gq (X : Cx) : Prop where
  un : X.A.units + 200 < cLine
  gd : X.A.guards = some []
  nd : X.N.Nodup
theorem Gd.q {X : Cx} {W : WX} {k : Nat} (g : Gd X W k) : Gq X := ⟨by have := g.hr.un; omega, g.gd, g.nd⟩
theorem Gd.mono {X : Cx} {W : WX} {j k : Nat} (g : Gd X W k) (h : j ≤ k) : Gd X W j := ⟨g.hr.mono h, g.gd, g.calm, g.nd, g.tk, g.po⟩

/-! ### readings -/
def XS (X : Cx) (W : WX) (f : Ow) (σV : L2.St) (H : Hp) (x : Exn) (S' : Sto) : Prop :=
  ∀ (cls : Value) (d : Option Addr) (H' : Hp), StoR X.K f S' H' → Kp f H H' → ExR X.K f H' cls d x → W cls d σV H'
def TX (X : Cx) (W : WX) (e : Ex) : TE := fun σV H Q => ∃ (f : Ow) (σ : Sg) (S : Sto) (r : Res SV), EnvR X.K f H σV σ ∧ StoR X.K f S H ∧ e σ S = some r ∧
  match r with
  | .ok sv S' => ∀ (v : V) (H' : Hp), StoR X.K f S' H' → Kp f H H' → SvR X.K f H' v sv → Q v H'
  | .exc x S' => XS X W f σV H x S'
def TXs (X : Cx) (W : WX) (e : Exs) : TA := fun σV H Q => ∃ (f : Ow) (σ : Sg) (S : Sto) (r : Res (List SV)), EnvR X.K f H σV σ ∧ StoR X.K f S H ∧ e σ S = some r ∧
  match r with
  | .ok sv S' => ∀ (v : List V) (H' : Hp), StoR X.K f S' H' → Kp f H H' → Paired (SvR X.K f H') v sv → Q v H'
  | .exc x S' => XS X W f σV H x S'
def TT_ (X : Cx) (W : WX) (e : Tst) : TT := fun σV H Q => ∃ (f : Ow) (σ : Sg) (S : Sto) (r : Res Bool), EnvR X.K f H σV σ ∧ StoR X.K f S H ∧ e σ S = some r ∧
  match r with
  | .ok b S' => ∀ (H' : Hp), StoR X.K f S' H' → Kp f H H' → Q b H'
  | .exc x S' => XS X W f σV H x S'
/-- a new list, its address the store's from now on -/
def TN (X : Cx) (W : WX) (e : Nw) : TE := fun σV H Q => ∃ (f : Ow) (σ : Sg) (S : Sto) (r : Res Ob), EnvR X.K f H σV σ ∧ StoR X.K f S H ∧ e σ S = some r ∧
  match r with
  | .ok ob S' => ∀ (p : Addr) (H' : Hp), H p = none → StoR X.K (f.add [p]) (S' ++ [ob]) H' → Kp f H H' → Q (.ref p) H'
  | .exc x S' => XS X W f σV H x S'
/-- e means f -/
def DE (X : Cx) (W : WX) (e : Expr) (f : Ex) : Prop := PE X e (TX X W f)
def DA (X : Cx) (W : WX) (e : List Expr) (f : Exs) : Prop := PA X e (TXs X W f)
def DT (X : Cx) (W : WX) (e : Expr) (f : Tst) : Prop := PT X e (TT_ X W f)
def DN (X : Cx) (W : WX) (e : Expr) (f : Nw) : Prop := PE X e (TN X W f)

/-! ### statements -/
inductive Flow where
  | nx (σ : Sg) (S : Sto)
  | rt (v : SV) (S : Sto)
  | bk (σ : Sg) (S : Sto)
  | ct (σ : Sg) (S : Sto)
  | exc (x : Exn) (S : Sto)
abbrev Sm := Sg → Sto → Option Flow
/-- a state that is reached: the store may have grown -/
def ReS (X : Cx) (f : Ow) (H : Hp) (σ' : Sg) (S' : Sto) (P : L2.St → Hp → Prop) : Prop :=
  ∀ (ex : List Addr) (σV : L2.St) (H' : Hp), (∀ a ∈ ex, H a = none) → StoR X.K (f.add ex) S' H' → Kp f H H' → EnvR X.K (f.add ex) H' σV σ' → P σV H'
def ReV (X : Cx) (f : Ow) (H : Hp) (v : SV) (S' : Sto) (P : V → Hp → Prop) : Prop :=
  ∀ (ex : List Addr) (u : V) (H' : Hp), (∀ a ∈ ex, H a = none) → StoR X.K (f.add ex) S' H' → Kp f H H' → SvR X.K (f.add ex) H' u v → P u H'
def ReX (X : Cx) (W : WX) (f : Ow) (H : Hp) (x : Exn) (S' : Sto) : Prop :=
  ∀ (ex : List Addr) (cls : Value) (d : Option Addr) (σV : L2.St) (H' : Hp), (∀ a ∈ ex, H a = none) → StoR X.K (f.add ex) S' H' → Kp f H H' → ExR X.K (f.add ex) H' cls d x → W cls d σV H'
def Fl (X : Cx) (W : WX) (f : Ow) (H : Hp) (D : Ends) : Flow → Prop
  | .nx σ' S' => ReS X f H σ' S' D.nx
  | .rt v S' => ReV X f H v S' D.rt
  | .bk σ' S' => ReS X f H σ' S' D.bk
  | .ct σ' S' => ReS X f H σ' S' D.ct
  | .exc x S' => ReX X W f H x S'
def TS_ (X : Cx) (W : WX) (m : Sm) : TS := fun D σV H => ∃ (f : Ow) (σ : Sg) (S : Sto) (r : Flow), EnvR X.K f H σV σ ∧ StoR X.K f S H ∧ m σ S = some r ∧ Fl X W f H D r
def DS (X : Cx) (W : WX) (st : Stmt) (m : Sm) : Prop := PS X st (TS_ X W m)
def DB (X : Cx) (W : WX) (st : List Stmt) (m : Sm) : Prop := PSs X st (TS_ X W m)

/-! ### glue -/
theorem fresh_app {X : Cx} {f : Ow} {ex ex' : List Addr} {S' : Sto} {H H1 : Hp} (n1 : ∀ a ∈ ex, H a = none) (s1 : StoR X.K (f.add ex) S' H1) (k1 : Kp f H H1) (sH : ∀ a ∈ f.o, ∃ o, H1 a = some o) (n2 : ∀ a ∈ ex', H1 a = none) : ∀ a ∈ ex ++ ex', H a = none := fun a m => by
  rcases List.mem_append.mp m with m | m
  · exact n1 a m
  · have z := n2 a m
    cases e : H a with
    | none => rfl
    | some o =>
      by_cases hf : a ∈ f.o
      · obtain ⟨o', e'⟩ := sH a hf
        rw [z] at e'; cases e'
      · rw [k1 a o hf e] at z; cases z
theorem Kp.more {f : Ow} {ex : List Addr} {H H1 H2 : Hp} (n1 : ∀ a ∈ ex, H a = none) (k1 : Kp f H H1) (k2 : Kp (f.add ex) H1 H2) : Kp f H H2 := fun a o n e => by
  refine k2 a o (fun m => ?_) (k1 a o n e)
  rcases List.mem_append.mp m with m | m
  · exact n m
  · rw [n1 a m] at e; cases e
theorem StoR.all {K : PySem.W.Frag} {f : Ow} {ex : List Addr} {S : Sto} {H : Hp} (h : StoR K (f.add ex) S H) : ∀ a ∈ f.o, ∃ o, H a = some o := fun a m => h.some_ (List.mem_append_left _ m)
theorem ReS.step {X : Cx} {f : Ow} {ex : List Addr} {H H1 : Hp} {σ' : Sg} {S1 S' : Sto} {P : L2.St → Hp → Prop} (h : ReS X f H σ' S' P) (n1 : ∀ a ∈ ex, H a = none) (s1 : StoR X.K (f.add ex) S1 H1) (k1 : Kp f H H1) : ReS X (f.add ex) H1 σ' S' P :=
  fun ex' σV H' n2 s2 k2 e2 => h (ex ++ ex') σV H' (fresh_app n1 s1 k1 s1.all n2) (by rw [← Ow.add_add]; exact s2) (Kp.more n1 k1 k2) (by rw [← Ow.add_add]; exact e2)
theorem ReV.step {X : Cx} {f : Ow} {ex : List Addr} {H H1 : Hp} {σ' : SV} {S1 S' : Sto} {P : V → Hp → Prop} (h : ReV X f H σ' S' P) (n1 : ∀ a ∈ ex, H a = none) (s1 : StoR X.K (f.add ex) S1 H1) (k1 : Kp f H H1) : ReV X (f.add ex) H1 σ' S' P :=
  fun ex' σV H' n2 s2 k2 e2 => h (ex ++ ex') σV H' (fresh_app n1 s1 k1 s1.all n2) (by rw [← Ow.add_add]; exact s2) (Kp.more n1 k1 k2) (by rw [← Ow.add_add]; exact e2)
theorem ReX.step {X : Cx} {W : WX} {f : Ow} {ex : List Addr} {H H1 : Hp} {x : Exn} {S1 S' : Sto} (h : ReX X W f H x S') (n1 : ∀ a ∈ ex, H a = none) (s1 : StoR X.K (f.add ex) S1 H1) (k1 : Kp f H H1) : ReX X W (f.add ex) H1 x S' :=
  fun ex' cls d σV H' n2 s2 k2 e2 => h (ex ++ ex') cls d σV H' (fresh_app n1 s1 k1 s1.all n2) (by rw [← Ow.add_add]; exact s2) (Kp.more n1 k1 k2) (by rw [← Ow.add_add]; exact e2)
theorem Fl.step {X : Cx} {W : WX} {f : Ow} {ex : List Addr} {H H1 : Hp} {S1 : Sto} {D : Ends} {r : Flow} (h : Fl X W f H D r) (n1 : ∀ a ∈ ex, H a = none) (s1 : StoR X.K (f.add ex) S1 H1) (k1 : Kp f H H1) : Fl X W (f.add ex) H1 D r := by
  cases r with
  | nx => exact ReS.step h n1 s1 k1
  | rt => exact ReV.step h n1 s1 k1
  | bk => exact ReS.step h n1 s1 k1
  | ct => exact ReS.step h n1 s1 k1
  | exc => exact ReX.step h n1 s1 k1
/-- the same where the store has not grown -/
theorem Fl.kp {X : Cx} {W : WX} {f : Ow} {H H1 : Hp} {S1 : Sto} {D : Ends} {r : Flow} (h : Fl X W f H D r) (s1 : StoR X.K f S1 H1) (k1 : Kp f H H1) : Fl X W f H1 D r := by
  have q := Fl.step (ex := []) h (fun _ z => nomatch z) (by rw [Ow.add_nil]; exact s1) k1
  rw [Ow.add_nil] at q
  exact q
theorem XS.kp {X : Cx} {W : WX} {f : Ow} {σV : L2.St} {H H1 : Hp} {x : Exn} {S' : Sto} (h : XS X W f σV H x S') (k1 : Kp f H H1) : XS X W f σV H1 x S' :=
  fun cls d H' s k e => h cls d H' s (k1.trans k) e
/-- an exception of an expression, as a statement's -/
theorem XS.of {X : Cx} {W : WX} {f : Ow} {σV : L2.St} {H : Hp} {x : Exn} {S' : Sto} (h : ReX X W f H x S') : XS X W f σV H x S' :=
  fun cls d H' s k e => h [] cls d σV H' (fun _ z => nomatch z) (by rw [Ow.add_nil]; exact s) k (by rw [Ow.add_nil]; exact e)

/-! ### combining expressions -/
def Res.bnd {α β : Type} (r : Option (Res α)) (k : α → Sto → Option (Res β)) : Option (Res β) :=
  match r with
  | some (.ok a S) => k a S
  | some (.exc x S) => some (.exc x S)
  | none => none
theorem bnd_congr {α β : Type} {r r' : Option (Res α)} {k : α → Sto → Option (Res β)} (h : r = r') : Res.bnd r k = Res.bnd r' k := by rw [h]
@[simp] theorem bnd_ok {α β : Type} {a : α} {S : Sto} {k : α → Sto → Option (Res β)} : Res.bnd (some (.ok a S)) k = k a S := rfl
@[simp] theorem bnd_exc {α β : Type} {x : Exn} {S : Sto} {k : α → Sto → Option (Res β)} : Res.bnd (some (.exc x S) : Option (Res α)) k = some (.exc x S) := rfl
@[simp] theorem bnd_none {α β : Type} {k : α → Sto → Option (Res β)} : Res.bnd (none : Option (Res α)) k = none := rfl

section
variable {X : Cx} {W : WX} {k : Nat}
/-- what a part yields is what it is asked: the first part of a bind -/
theorem TX.first {β : Type} {e : Ex} {g : SV → Sto → Option (Res β)} {f : Ow} {σ : Sg} {S : Sto} {σV : L2.St} {H : Hp} {r : Res β} {Q : VK} (hE : EnvR X.K f H σV σ) (hS : StoR X.K f S H) (h : Res.bnd (e σ S) g = some r)
    (hx : ∀ x S', r = .exc x S' → XS X W f σV H x S')
    (hk : ∀ (sv : SV) (S1 : Sto) (v : V) (H1 : Hp), e σ S = some (.ok sv S1) → g sv S1 = some r → StoR X.K f S1 H1 → Kp f H H1 → EnvR X.K f H1 σV σ → SvR X.K f H1 v sv → Q v H1) : TX X W e σV H Q := by
  cases e1 : e σ S with
  | none => rw [e1] at h; cases h
  | some q =>
    rw [e1] at h
    refine ⟨f, σ, S, q, hE, hS, e1, ?_⟩
    cases q with
    | ok sv S1 => exact fun v H1 s1 k1 r1 => hk sv S1 v H1 e1 h s1 k1 (hE.kp k1) r1
    | exc x S1 => exact hx x S1 (Option.some.inj h).symm
theorem TXs.first {β : Type} {e : Exs} {g : List SV → Sto → Option (Res β)} {f : Ow} {σ : Sg} {S : Sto} {σV : L2.St} {H : Hp} {r : Res β} {Q : List V → Hp → Prop} (hE : EnvR X.K f H σV σ) (hS : StoR X.K f S H) (h : Res.bnd (e σ S) g = some r)
    (hx : ∀ x S', r = .exc x S' → XS X W f σV H x S')
    (hk : ∀ (sv : List SV) (S1 : Sto) (v : List V) (H1 : Hp), e σ S = some (.ok sv S1) → g sv S1 = some r → StoR X.K f S1 H1 → Kp f H H1 → EnvR X.K f H1 σV σ → Paired (SvR X.K f H1) v sv → Q v H1) : TXs X W e σV H Q := by
  cases e1 : e σ S with
  | none => rw [e1] at h; cases h
  | some q =>
    rw [e1] at h
    refine ⟨f, σ, S, q, hE, hS, e1, ?_⟩
    cases q with
    | ok sv S1 => exact fun v H1 s1 k1 r1 => hk sv S1 v H1 e1 h s1 k1 (hE.kp k1) r1
    | exc x S1 => exact hx x S1 (Option.some.inj h).symm
theorem TT_.first {β : Type} {e : Tst} {g : Bool → Sto → Option (Res β)} {f : Ow} {σ : Sg} {S : Sto} {σV : L2.St} {H : Hp} {r : Res β} {Q : Bool → Hp → Prop} (hE : EnvR X.K f H σV σ) (hS : StoR X.K f S H) (h : Res.bnd (e σ S) g = some r)
    (hx : ∀ x S', r = .exc x S' → XS X W f σV H x S')
    (hk : ∀ (b : Bool) (S1 : Sto) (H1 : Hp), e σ S = some (.ok b S1) → g b S1 = some r → StoR X.K f S1 H1 → Kp f H H1 → EnvR X.K f H1 σV σ → Q b H1) : TT_ X W e σV H Q := by
  cases e1 : e σ S with
  | none => rw [e1] at h; cases h
  | some q =>
    rw [e1] at h
    refine ⟨f, σ, S, q, hE, hS, e1, ?_⟩
    cases q with
    | ok sv S1 => exact fun H1 s1 k1 => hk sv S1 H1 e1 h s1 k1 (hE.kp k1)
    | exc x S1 => exact hx x S1 (Option.some.inj h).symm
/-- the end of a reading: the exception's way, shifted -/
theorem exc_way {f : Ow} {σV : L2.St} {H : Hp} {r : Res SV} {Q : VK} (h : match r with | .ok sv S' => ∀ (v : V) (H' : Hp), StoR X.K f S' H' → Kp f H H' → SvR X.K f H' v sv → Q v H' | .exc x S' => XS X W f σV H x S') :
    ∀ x S', r = .exc x S' → XS X W f σV H x S' := fun x S' e => by
  subst e; exact h
end
end Z
set_option maxRecDepth 100000
namespace Z
open PySem PySem.Spec PyProof.Rows L2

/-! ## rules for expressions -/
theorem pe_imp {X : Cx} {e : Expr} {t t' : TE} (h : PE X e t) (i : ∀ σ H Q, t' σ H Q → t σ H Q) : PE X e t' := ⟨fun pins s σ H Q I q => h.run pins s σ H Q I (i σ H Q q)⟩
theorem pa_imp {X : Cx} {e : List Expr} {t t' : TA} (h : PA X e t) (i : ∀ σ H Q, t' σ H Q → t σ H Q) : PA X e t' := ⟨fun pos pins s σ H Q I q => h.run pos pins s σ H Q I (i σ H Q q)⟩
theorem pt_imp {X : Cx} {e : Expr} {t t' : TT} (h : PT X e t) (i : ∀ σ H Q, t' σ H Q → t σ H Q) : PT X e t' := ⟨fun pins s σ H Q I q => h.run pins s σ H Q I (i σ H Q q)⟩
theorem pw_imp {X : Cx} {e : Expr} {t t' : TT} (h : PW X e t) (i : ∀ σ H Q, t' σ H Q → t σ H Q) : PW X e t' := ⟨fun wh pins s σ H Q I q => h.run wh pins s σ H Q I (i σ H Q q)⟩

@[simp] def eVar (i : Nat) (σ : Sg) (S : Sto) : Option (Res SV) := match σ[i]? with
  | some (some v) => some (.ok v S)
  | _ => none
@[simp] def eLit (d : PyData) (_ : Sg) (S : Sto) : Option (Res SV) := some (.ok (.d d) S)
@[simp] def eBin (p : SV → SV → Sto → Option SV) (a b : Ex) (σ : Sg) (S : Sto) : Option (Res SV) := Res.bnd (a σ S) fun x S1 => Res.bnd (b σ S1) fun y S2 => (p x y S2).map fun z => .ok z S2
@[simp] def eUn (p : SV → Sto → Option SV) (a : Ex) (σ : Sg) (S : Sto) : Option (Res SV) := Res.bnd (a σ S) fun x S1 => (p x S1).map fun z => .ok z S1
@[simp] def eAnd (a b : Ex) (σ : Sg) (S : Sto) : Option (Res SV) := Res.bnd (a σ S) fun x S1 => match x with
  | .d (.bool c) => if c = true then b σ S1 else some (.ok (.d (.bool false)) S1)
  | _ => none
@[simp] def eOr (a b : Ex) (σ : Sg) (S : Sto) : Option (Res SV) := Res.bnd (a σ S) fun x S1 => match x with
  | .d (.bool c) => if c = true then some (.ok (.d (.bool true)) S1) else b σ S1
  | _ => none
@[simp] def eIf (c : Tst) (a b : Ex) (σ : Sg) (S : Sto) : Option (Res SV) := Res.bnd (c σ S) fun x S1 => if x = true then a σ S1 else b σ S1
@[simp] def eChain (p p' : SV → SV → Sto → Option SV) (a b c : Ex) (σ : Sg) (S : Sto) : Option (Res SV) := Res.bnd (a σ S) fun x S1 => Res.bnd (b σ S1) fun y S2 => match p x y S2 with
  | some (.d (.bool true)) => Res.bnd (c σ S2) fun z S3 => (p' y z S3).map fun u => .ok u S3
  | some (.d (.bool false)) => some (.ok (.d (.bool false)) S2)
  | _ => none
@[simp] def tVal (a : Ex) (σ : Sg) (S : Sto) : Option (Res Bool) := Res.bnd (a σ S) fun x S1 => match x with
  | .d (.bool c) => some (.ok c S1)
  | _ => none
@[simp] def tNt (a : Tst) (σ : Sg) (S : Sto) : Option (Res Bool) := Res.bnd (a σ S) fun x S1 => some (.ok (!x) S1)
@[simp] def tAd (a b : Tst) (σ : Sg) (S : Sto) : Option (Res Bool) := Res.bnd (a σ S) fun x S1 => if x = true then b σ S1 else some (.ok false S1)
@[simp] def tOr_ (a b : Tst) (σ : Sg) (S : Sto) : Option (Res Bool) := Res.bnd (a σ S) fun x S1 => if x = true then some (.ok true S1) else b σ S1
@[simp] def esNil (_ : Sg) (S : Sto) : Option (Res (List SV)) := some (.ok [] S)
@[simp] def esCons (a : Ex) (r : Exs) (σ : Sg) (S : Sto) : Option (Res (List SV)) := Res.bnd (a σ S) fun x S1 => Res.bnd (r σ S1) fun xs S2 => some (.ok (x :: xs) S2)

/-- what an operator's reading asks is there -/
def OpK (X : Cx) (r : R2) (p : SV → SV → Sto → Option SV) : Prop := ∀ (f : Ow) (S : Sto) (H : Hp) (vx vy : V) (x y z : SV) (Q : VK), StoR X.K f S H → SvR X.K f H vx x → SvR X.K f H vy y → p x y S = some z →
  (∀ (v : V) (H' : Hp), StoR X.K f S H' → Kp f H H' → SvR X.K f H' v z → Q v H') → r vx vy H Q
def UnK (X : Cx) (r : V → Hp → VK → Prop) (p : SV → Sto → Option SV) : Prop := ∀ (f : Ow) (S : Sto) (H : Hp) (vx : V) (x z : SV) (Q : VK), StoR X.K f S H → SvR X.K f H vx x → p x S = some z →
  (∀ (v : V) (H' : Hp), StoR X.K f S H' → Kp f H H' → SvR X.K f H' v z → Q v H') → r vx H Q
/-- a call of something built in: it hands back a value -/
def CaK (X : Cx) (r : List V → Hp → VK → Prop) (p : List SV → Sto → Option SV) : Prop := ∀ (f : Ow) (S : Sto) (H : Hp) (vs : List V) (xs : List SV) (z : SV) (Q : VK), StoR X.K f S H → Paired (SvR X.K f H) vs xs → p xs S = some z →
  (∀ (v : V) (H' : Hp), StoR X.K f S H' → Kp f H H' → SvR X.K f H' v z → Q v H') → r vs H Q

section
variable {X : Cx} {W : WX} {a b c : Expr} {ea eb ec : Ex} {pos : Pos}
theorem de_var (i : Nat) {x : Str} (hN : X.N[i]? = some x := by rfl) (hv : Vis X.env.scope x := by first | exact Or.inl rfl | exact Or.inr (Or.inl rfl) | exact Or.inr (Or.inr rfl)) (hd : (x == ("__debug__" : Str)) = false := by decide)
    (hcd : (x == ("__classdict__" : Str)) = false := by decide) : DE X W (.Name x pos) (eVar i) := by
  refine pe_imp (pv i hN hv hd hcd) fun σV H Q ⟨f, σ, S, r, hE, hS, he, hq⟩ => ?_
  unfold eVar at he
  split at he
  · rename_i v e
    cases he
    obtain ⟨u, e1, r1⟩ := hE.get i v e
    exact ⟨u, e1, hq u H hS (Kp.refl _ _) r1⟩
  · cases he
theorem de_int {i j} : DE X W (.Constant (.int i) j pos) (eLit (.int i)) := pe_imp pe_int fun σV H Q ⟨f, σ, S, r, hE, hS, he, hq⟩ => by
  cases he
  exact hq _ H hS (Kp.refl _ _) (Is.int i)
theorem de_bl {b j} : DE X W (.Constant (.bool b) j pos) (eLit (.bool b)) := pe_imp pe_bl fun σV H Q ⟨f, σ, S, r, hE, hS, he, hq⟩ => by
  cases he
  exact hq _ H hS (Kp.refl _ _) (Is.bl b)
theorem de_non {j} : DE X W (.Constant .none j pos) (eLit .none) := pe_imp pe_non fun σV H Q ⟨f, σ, S, r, hE, hS, he, hq⟩ => by
  cases he
  exact hq _ H hS (Kp.refl _ _) Is.non
theorem de_str {x j} : DE X W (.Constant (.str x) j pos) (eLit (.str x)) := pe_imp pe_str fun σV H Q ⟨f, σ, S, r, hE, hS, he, hq⟩ => by
  cases he
  exact hq _ H hS (Kp.refl _ _) (Is.str x)
/-- a constant of the module -/
theorem de_glob {x : Str} {v : V} {u : Value} {d : PyData} (hg : Gl X x) (hm : X.mg x = some u) (r : RelV v u) (i : ∀ f H, Is X.K f H v d) (hd : (x == ("__debug__" : Str)) = false := by decide) : DE X W (.Name x pos) (eLit d) :=
  pe_imp (pe_glob hg hm r hd) fun σV H Q ⟨f, σ, S, r, hE, hS, he, hq⟩ => by
    cases he
    exact hq _ H hS (Kp.refl _ _) (i f H)

/-- two parts in a row, then what is made of them -/
theorem two {p : SV → SV → Sto → Option SV} {r : R2} (hk : OpK X r p) {σV : L2.St} {H : Hp} {Q : VK} (h : TX X W (eBin p ea eb) σV H Q) : tOp r (TX X W ea) (TX X W eb) σV H Q := by
  obtain ⟨f, σ, S, r, hE, hS, he, hq⟩ := h
  have hx := exc_way hq
  refine TX.first hE hS he hx fun x S1 vx H1 _ h1 s1 k1 e1 r1 => ?_
  refine TX.first e1 s1 h1 (fun y S' e => (hx y S' e).kp k1) fun y S2 vy H2 _ h2 s2 k2 e2 r2 => ?_
  cases hp : p x y S2 with
  | none => rw [hp] at h2; cases h2
  | some z =>
    rw [hp] at h2
    cases h2
    exact hk f S2 H2 vx vy x y z Q s2 (r1.kp k2) r2 hp fun v H' s' k' r' => hq v H' s' ((k1.trans k2).trans k') r'
theorem de_bin {op : Operator} {r : R2} {p : SV → SV → Sto → Option SV} (ho : OpR X (binaryOp op) r) (hk : OpK X r p) (ha : DE X W a ea) (hb : DE X W b eb) : DE X W (.BinOp a op b pos) (eBin p ea eb) :=
  pe_imp (pe_op ho ha hb) fun _ _ _ h => two hk h
theorem de_cmp {op : CmpOp} {r : R2} {p : SV → SV → Sto → Option SV} (ho : OpR X (compareOp op) r) (hk : OpK X r p) (ha : DE X W a ea) (hb : DE X W b eb) (hm : behindInMarks op b = false) : DE X W (.Compare a [op] [b] pos) (eBin p ea eb) :=
  pe_imp (pe_cmpR ho ha hb hm) fun _ _ _ h => two hk h
theorem dt_cmp {op : CmpOp} {r : R2} {p : SV → SV → Sto → Option SV} (ho : OpR X (compareOp op) r) (hk : OpK X r p) (ha : DE X W a ea) (hb : DE X W b eb) (hm : behindInMarks op b = false) : DT X W (.Compare a [op] [b] pos) (tVal (eBin p ea eb)) :=
  pt_imp (pt_cmpR ho ha hb hm) fun σV H Q ⟨f, σ, S, r, hE, hS, he, hq⟩ => by
    unfold tVal at he
    show tOp _ _ _ σV H _
    refine two hk ?_
    refine TX.first hE hS he (fun x S' e => by subst e; exact hq) fun x S1 vx H1 _ h1 s1 k1 e1 r1 => ?_
    split at h1
    · cases h1
      cases r1
      exact ⟨_, rfl, hq _ s1 k1⟩
    · cases h1
theorem de_un {op : UnaryOp} {r : V → Hp → VK → Prop} {p : SV → Sto → Option SV} (ho : UnR X (unaryOp op) r) (hk : UnK X r p) (ha : DE X W a ea) : DE X W (.UnaryOp op a pos) (eUn p ea) :=
  pe_imp (pe_un ho ha) fun σV H Q ⟨f, σ, S, r, hE, hS, he, hq⟩ => by
    have hx := exc_way hq
    refine TX.first hE hS he hx fun x S1 vx H1 _ h1 s1 k1 e1 r1 => ?_
    cases hp : p x S1 with
    | none => rw [hp] at h1; cases h1
    | some z =>
      rw [hp] at h1
      cases h1
      exact hk f S1 H1 vx x z Q s1 r1 hp fun v H' s' k' r' => hq v H' s' (k1.trans k') r'
theorem de_one {op} (h : DE X W a ea) : DE X W (.BoolOp op [a] pos) ea := pe_one h
theorem de_and {rest : List Expr} (ha : DE X W a ea) (hb : DE X W (.BoolOp .And (b :: rest) pos) eb) : DE X W (.BoolOp .And (a :: b :: rest) pos) (eAnd ea eb) :=
  pe_imp (pe_and ha hb) fun σV H Q ⟨f, σ, S, r, hE, hS, he, hq⟩ => by
    refine TX.first hE hS he (exc_way hq) fun x S1 vx H1 _ h1 s1 k1 e1 r1 => ?_
    split at h1
    · rename_i c _
      cases r1
      refine ⟨c, rfl, ?_⟩
      cases c with
      | true =>
        rw [if_pos rfl] at h1 ⊢
        refine ⟨f, σ, S1, r, e1, s1, h1, ?_⟩
        cases r with
        | ok sv S' => exact fun v H' s' k' r' => hq v H' s' (k1.trans k') r'
        | exc y S' => exact XS.kp hq k1
      | false =>
        rw [if_neg Bool.false_ne_true] at h1 ⊢
        cases h1
        exact hq _ H1 s1 k1 (Is.bl false)
    · cases h1
theorem de_or {rest : List Expr} (ha : DE X W a ea) (hb : DE X W (.BoolOp .Or (b :: rest) pos) eb) : DE X W (.BoolOp .Or (a :: b :: rest) pos) (eOr ea eb) :=
  pe_imp (pe_or ha hb) fun σV H Q ⟨f, σ, S, r, hE, hS, he, hq⟩ => by
    refine TX.first hE hS he (exc_way hq) fun x S1 vx H1 _ h1 s1 k1 e1 r1 => ?_
    split at h1
    · rename_i c _
      cases r1
      refine ⟨c, rfl, ?_⟩
      cases c with
      | false =>
        rw [if_neg Bool.false_ne_true] at h1 ⊢
        refine ⟨f, σ, S1, r, e1, s1, h1, ?_⟩
        cases r with
        | ok sv S' => exact fun v H' s' k' r' => hq v H' s' (k1.trans k') r'
        | exc y S' => exact XS.kp hq k1
      | true =>
        rw [if_pos rfl] at h1 ⊢
        cases h1
        exact hq _ H1 s1 k1 (Is.bl true)
    · cases h1
@[simp] def eNot (a : Ex) (σ : Sg) (S : Sto) : Option (Res SV) := Res.bnd (a σ S) fun x S1 => match x with
  | .d (.bool c) => some (.ok (.d (.bool (!c))) S1)
  | _ => none
theorem de_not (ha : DE X W a ea) : DE X W (.UnaryOp .Not a pos) (eNot ea) :=
  pe_imp (pe_not ha) fun σV H Q ⟨f, σ, S, r, hE, hS, he, hq⟩ => by
    refine TX.first hE hS he (exc_way hq) fun x S1 vx H1 _ h1 s1 k1 e1 r1 => ?_
    split at h1
    · cases h1
      cases r1
      exact ⟨_, rfl, hq _ H1 s1 k1 (Is.bl _)⟩
    · cases h1
/-! tests -/
theorem dt_val (ha : DE X W a ea) (he : ∀ whole, isTrue a X.env whole = (do let v ← whole; standAt a.pos; holding [v] (truthy v)) := by intro _; rfl) : DT X W a (tVal ea) :=
  pt_imp (pt_val ha he) fun σV H Q ⟨f, σ, S, r, hE, hS, he, hq⟩ => by
    refine TX.first hE hS he (fun x S' e => by subst e; exact hq) fun x S1 vx H1 _ h1 s1 k1 e1 r1 => ?_
    split at h1
    · cases h1
      cases r1
      exact ⟨_, rfl, hq H1 s1 k1⟩
    · cases h1
variable {ta tb : Tst}
theorem TT_.go {σV : L2.St} {H H1 : Hp} {f : Ow} {σ : Sg} {S1 : Sto} {Q : Bool → Hp → Prop} {r : Res Bool} (e1 : EnvR X.K f H1 σV σ) (s1 : StoR X.K f S1 H1) (k1 : Kp f H H1) (h1 : tb σ S1 = some r)
    (hq : match (generalizing := false) r with | .ok b S' => ∀ (H' : Hp), StoR X.K f S' H' → Kp f H H' → Q b H' | .exc x S' => XS X W f σV H x S') : TT_ X W tb σV H1 Q := by
  refine ⟨f, σ, S1, r, e1, s1, h1, ?_⟩
  cases r with
  | ok b S' => exact fun H' s' k' => hq H' s' (k1.trans k')
  | exc y S' => exact XS.kp hq k1
theorem TX.go {σV : L2.St} {H H1 : Hp} {f : Ow} {σ : Sg} {S1 : Sto} {Q : VK} {r : Res SV} {e : Ex} (e1 : EnvR X.K f H1 σV σ) (s1 : StoR X.K f S1 H1) (k1 : Kp f H H1) (h1 : e σ S1 = some r)
    (hq : match (generalizing := false) r with | .ok sv S' => ∀ (v : V) (H' : Hp), StoR X.K f S' H' → Kp f H H' → SvR X.K f H' v sv → Q v H' | .exc x S' => XS X W f σV H x S') : TX X W e σV H1 Q := by
  refine ⟨f, σ, S1, r, e1, s1, h1, ?_⟩
  cases r with
  | ok b S' => exact fun v H' s' k' r' => hq v H' s' (k1.trans k') r'
  | exc y S' => exact XS.kp hq k1
theorem dt_not (ha : DT X W a ta) : DT X W (.UnaryOp .Not a pos) (tNt ta) :=
  pt_imp (pt_not ha) fun σV H Q ⟨f, σ, S, r, hE, hS, he, hq⟩ => by
    refine TT_.first hE hS he (fun x S' e => by subst e; exact hq) fun b S1 H1 _ h1 s1 k1 e1 => ?_
    cases h1
    exact hq H1 s1 k1
/-- a chain of and, or, whatever its whole is -/
def DW (X : Cx) (W : WX) (e : Expr) (f : Tst) : Prop := PW X e (TT_ X W f)
theorem dw_and1 (ha : DT X W a ta) : DW X W (.BoolOp .And [a] pos) ta := pw_and1 ha
theorem dw_or1 (ha : DT X W a ta) : DW X W (.BoolOp .Or [a] pos) ta := pw_or1 ha
theorem dw_and {rest : List Expr} (ha : DT X W a ta) (hb : DW X W (.BoolOp .And (b :: rest) pos) tb) : DW X W (.BoolOp .And (a :: b :: rest) pos) (tAd ta tb) :=
  pw_imp (pw_and ha hb) fun σV H Q ⟨f, σ, S, r, hE, hS, he, hq⟩ => by
    refine TT_.first hE hS he (fun x S' e => by subst e; exact hq) fun b S1 H1 _ h1 s1 k1 e1 => ?_
    cases b with
    | true =>
      rw [if_pos rfl] at h1 ⊢
      exact TT_.go e1 s1 k1 h1 hq
    | false =>
      rw [if_neg Bool.false_ne_true] at h1 ⊢
      cases h1
      exact hq H1 s1 k1
theorem dw_or {rest : List Expr} (ha : DT X W a ta) (hb : DW X W (.BoolOp .Or (b :: rest) pos) tb) : DW X W (.BoolOp .Or (a :: b :: rest) pos) (tOr_ ta tb) :=
  pw_imp (pw_or ha hb) fun σV H Q ⟨f, σ, S, r, hE, hS, he, hq⟩ => by
    refine TT_.first hE hS he (fun x S' e => by subst e; exact hq) fun b S1 H1 _ h1 s1 k1 e1 => ?_
    cases b with
    | false =>
      rw [if_neg Bool.false_ne_true] at h1 ⊢
      exact TT_.go e1 s1 k1 h1 hq
    | true =>
      rw [if_pos rfl] at h1 ⊢
      cases h1
      exact hq H1 s1 k1
theorem dt_w (h : DW X W a ta) : DT X W a ta := PW.pt h
theorem de_if (hc : DT X W c ta) (ha : DE X W a ea) (hb : DE X W b eb) : DE X W (.IfExp c a b pos) (eIf ta ea eb) :=
  pe_imp (pe_ifExp hc ha hb) fun σV H Q ⟨f, σ, S, r, hE, hS, he, hq⟩ => by
    refine TT_.first hE hS he (exc_way hq) fun b S1 H1 _ h1 s1 k1 e1 => ?_
    cases b with
    | true =>
      rw [if_pos rfl] at h1 ⊢
      exact TX.go e1 s1 k1 h1 hq
    | false =>
      rw [if_neg Bool.false_ne_true] at h1 ⊢
      exact TX.go e1 s1 k1 h1 hq
/-! lists of arguments, displays, calls of what is built in -/
variable {es : List Expr} {fs : Exs}
theorem da_nil : DA X W [] esNil := pa_imp pa_nil fun σV H Q ⟨f, σ, S, r, hE, hS, he, hq⟩ => by
  cases he
  exact hq [] H hS (Kp.refl _ _) .nil
theorem da_cons (ha : DE X W a ea) (hr : DA X W es fs) (hs : starEach (a :: es) X.env = (false, eval a X.env) :: starEach es X.env := by rfl) : DA X W (a :: es) (esCons ea fs) :=
  pa_imp (pa_cons ha hr hs) fun σV H Q ⟨f, σ, S, r, hE, hS, he, hq⟩ => by
    have hx : ∀ x S', r = .exc x S' → XS X W f σV H x S' := fun x S' e => by subst e; exact hq
    refine TX.first hE hS he hx fun x S1 vx H1 _ h1 s1 k1 e1 r1 => ?_
    refine TXs.first e1 s1 h1 (fun y S' e => (hx y S' e).kp k1) fun ys S2 vs H2 _ h2 s2 k2 e2 r2 => ?_
    cases h2
    exact hq _ H2 s2 (k1.trans k2) (.cons (r1.kp k2) r2)
@[simp] def eCa (p : List SV → Sto → Option SV) (as : Exs) (σ : Sg) (S : Sto) : Option (Res SV) := Res.bnd (as σ S) fun xs S1 => (p xs S1).map fun z => .ok z S1
theorem ca_go {r : List V → Hp → VK → Prop} {p : List SV → Sto → Option SV} (hk : CaK X r p) {σV : L2.St} {H : Hp} {Q : VK} (h : TX X W (eCa p fs) σV H Q) : tCB r (TXs X W fs) σV H Q := by
  obtain ⟨f, σ, S, r, hE, hS, he, hq⟩ := h
  refine TXs.first hE hS he (exc_way hq) fun xs S1 vs H1 _ h1 s1 k1 e1 r1 => ?_
  cases hp : p xs S1 with
  | none => rw [hp] at h1; cases h1
  | some z =>
    rw [hp] at h1
    cases h1
    exact hk f S1 H1 vs xs z Q s1 r1 hp fun v H' s' k' r' => hq v H' s' (k1.trans k') r'
theorem de_callB {x : Str} {id : String} {p0 : Pos} {r : List V → Hp → VK → Prop} {p : List SV → Sto → Option SV} (hc : CallR X (.builtin id) r) (hk : CaK X r p) (hg : Gl X x) (hm : X.mg x = none) (hv : bootBuiltins x = some (.builtin id)) (ha : DA X W (a :: es) fs) (hn : x ≠ "__name__" := by decide) (hdb : (x == ("__debug__" : Str)) = false := by decide)
    (he : starEach (a :: es) X.env = (false, eval a X.env) :: starEach es X.env := by rfl) (hpl : (backTo pos (starEach es X.env)).any (·.1) = false := by rfl) : DE X W (.Call (.Name x p0) (a :: es) [] pos) (eCa p fs) :=
  pe_imp (pe_callB hc hg hm hv ha hn hdb he hpl) fun _ _ _ h => ca_go hk h
theorem de_callTy {x : Str} {id : String} {p0 : Pos} {r : List V → Hp → VK → Prop} {p : List SV → Sto → Option SV} (hc : CallR X (.type id) r) (hk : CaK X r p) (hg : Gl X x) (hm : X.mg x = none) (hv : bootBuiltins x = some (.type id)) (ha : DA X W (a :: es) fs) (hn : x ≠ "__name__" := by decide) (hdb : (x == ("__debug__" : Str)) = false := by decide)
    (he : starEach (a :: es) X.env = (false, eval a X.env) :: starEach es X.env := by rfl) (hpl : (backTo pos (starEach es X.env)).any (·.1) = false := by rfl) : DE X W (.Call (.Name x p0) (a :: es) [] pos) (eCa p fs) :=
  pe_imp (pe_callTy hc hg hm hv ha hn hdb he hpl) fun _ _ _ h => ca_go hk h
/-- the data of values that are data -/
@[simp] def dats : List SV → Option (List PyData)
  | [] => some []
  | .d x :: r => (dats r).map (x :: ·)
  | .r _ :: _ => none
  | .s _ :: _ => none
  | .k _ _ _ _ :: _ => none
  | .t _ _ _ _ _ :: _ => none
theorem dats_is {K : PySem.W.Frag} {f : Ow} {H : Hp} : ∀ {xs : List SV} {vs : List V} {ds : List PyData}, dats xs = some ds → Paired (SvR K f H) vs xs → IsAll K f H vs ds
  | [], _, _, h, .nil => by cases h; exact .nil
  | .d x :: r, _, ds, h, .cons a t => by
    unfold dats at h
    cases e : dats r with
    | none => rw [e] at h; cases h
    | some es => rw [e] at h; cases h; exact .cons a (dats_is e t)
  | .r _ :: _, _, _, h, _ => by cases h
  | .s _ :: _, _, _, h, _ => by cases h
  | .k _ _ _ _ :: _, _, _, h, _ => by cases h
  | .t _ _ _ _ _ :: _, _, _, h, _ => by cases h
@[simp] def dispT (xs : List SV) (_ : Sto) : Option SV := (dats xs).bind fun ds => if ds.length ≤ sizeLine then some (.d (.tuple ds)) else none
@[simp] def dispL (xs : List SV) (_ : Sto) : Option SV := (dats xs).bind fun ds => if ds.length ≤ sizeLine then some (.d (.list ds)) else none
theorem de_tup {k1 : Nat} (h : DA X W es fs) : DE X W (.Tuple es k1 pos) (eCa dispT fs) :=
  pe_imp (pe_tup h) fun σV H Q ⟨f, σ, S, r, hE, hS, he, hq⟩ => by
    refine TXs.first hE hS he (exc_way hq) fun xs S1 vs H1 _ h1 s1 k1 e1 r1 => ?_
    unfold dispT at h1
    cases e : dats xs with
    | none => rw [e] at h1; cases h1
    | some ds =>
      rw [e] at h1
      dsimp only [Option.bind_some] at h1
      split at h1
      · rename_i hz
        cases h1
        have q := dats_is e r1
        refine ⟨by rw [q.len]; exact hz, fun p np => ?_⟩
        refine hq _ _ (s1.laid np) (k1.trans (Kp.new np)) (Is.tup (.inl ⟨.inl upd_same, s1.free np⟩) (q.keep (Kp.new np).q (Gr.refl _ _)))
      · cases h1
theorem de_lst (h : DA X W es fs) : DE X W (.List es pos) (eCa dispL fs) :=
  pe_imp (pe_lst h) fun σV H Q ⟨f, σ, S, r, hE, hS, he, hq⟩ => by
    refine TXs.first hE hS he (exc_way hq) fun xs S1 vs H1 _ h1 s1 k1 e1 r1 => ?_
    unfold dispL at h1
    cases e : dats xs with
    | none => rw [e] at h1; cases h1
    | some ds =>
      rw [e] at h1
      dsimp only [Option.bind_some] at h1
      split at h1
      · rename_i hz
        cases h1
        have q := dats_is e r1
        refine ⟨by rw [q.len]; exact hz, fun p np => ?_⟩
        refine hq _ _ (s1.laid np) (k1.trans (Kp.new np)) (Is.lst ⟨upd_same, s1.free np⟩ (q.keep (Kp.new np).q (Gr.refl _ _)))
      · cases h1
/-- the same list, owned -/
@[simp] def nLst (as : Exs) (σ : Sg) (S : Sto) : Option (Res Ob) := Res.bnd (as σ S) fun xs S1 => (dats xs).bind fun ds => if ds.length ≤ sizeLine then some (.ok (.lst ds) S1) else none
theorem TN.first {β : Type} {e : Nw} : True := trivial
theorem dn_lst (h : DA X W es fs) : DN X W (.List es pos) (nLst fs) :=
  pe_imp (pe_lst h) fun σV H Q ⟨f, σ, S, r, hE, hS, he, hq⟩ => by
    refine TXs.first hE hS he (fun x S' e => by subst e; exact hq) fun xs S1 vs H1 _ h1 s1 k1 e1 r1 => ?_
    cases e : dats xs with
    | none => rw [e] at h1; cases h1
    | some ds =>
      rw [e] at h1
      dsimp only [Option.bind_some] at h1
      split at h1
      · rename_i hz
        cases h1
        have q := dats_is e r1
        refine ⟨by rw [q.len]; exact hz, fun p np => ?_⟩
        have nH : H p = none := by
          cases eH : H p with
          | none => rfl
          | some o =>
            have z := k1 p o (s1.free np).1 eH
            rw [np] at z; cases z
        refine hq p _ nH (s1.own np ⟨vs, upd_same, q.keep (Kp.new np).q (Gr.app fun b hb => ?_)⟩) (k1.trans (Kp.new np))
        have e' : b = p := by simpa using hb
        rw [e']; exact np
      · cases h1
end
end Z
set_option maxRecDepth 100000
namespace Z
open PySem PySem.Spec PyProof.Rows L2

/-! ## statements -/
theorem ps_imp {X : Cx} {e : Stmt} {t t' : TS} (h : PS X e t) (i : ∀ D σ H, t' D σ H → t D σ H) : PS X e t' := ⟨fun pins s σ H D I q => h.run pins s σ H D I (i D σ H q)⟩
theorem pss_imp {X : Cx} {e : List Stmt} {t t' : TS} (h : PSs X e t) (i : ∀ D σ H, t' D σ H → t D σ H) : PSs X e t' := ⟨fun pins s σ H D I q => h.run pins s σ H D I (i D σ H q)⟩

/-- a part, then a statement's end -/
def Sm.bnd {α : Type} (r : Option (Res α)) (k : α → Sto → Option Flow) : Option Flow :=
  match r with
  | some (.ok a S) => k a S
  | some (.exc x S) => some (.exc x S)
  | none => none
theorem sbnd_congr {α : Type} {r r' : Option (Res α)} {k : α → Sto → Option Flow} (h : r = r') : Sm.bnd r k = Sm.bnd r' k := by rw [h]
@[simp] theorem sbnd_ok {α : Type} {a : α} {S : Sto} {k : α → Sto → Option Flow} : Sm.bnd (some (.ok a S)) k = k a S := rfl
@[simp] theorem sbnd_exc {α : Type} {x : Exn} {S : Sto} {k : α → Sto → Option Flow} : Sm.bnd (some (.exc x S) : Option (Res α)) k = some (.exc x S) := rfl
@[simp] theorem sbnd_none {α : Type} {k : α → Sto → Option Flow} : Sm.bnd (none : Option (Res α)) k = none := rfl

section
variable {X : Cx} {W : WX} {k : Nat}
theorem TX.stm {e : Ex} {g : SV → Sto → Option Flow} {f : Ow} {σ : Sg} {S : Sto} {σV : L2.St} {H : Hp} {r : Flow} {D : Ends} {Q : VK} (hE : EnvR X.K f H σV σ) (hS : StoR X.K f S H) (h : Sm.bnd (e σ S) g = some r) (hf : Fl X W f H D r)
    (hk : ∀ (sv : SV) (S1 : Sto) (v : V) (H1 : Hp), g sv S1 = some r → Fl X W f H1 D r → StoR X.K f S1 H1 → Kp f H H1 → EnvR X.K f H1 σV σ → SvR X.K f H1 v sv → Q v H1) : TX X W e σV H Q := by
  cases e1 : e σ S with
  | none => rw [e1] at h; cases h
  | some q =>
    rw [e1] at h
    refine ⟨f, σ, S, q, hE, hS, e1, ?_⟩
    cases q with
    | ok sv S1 => exact fun v H1 s1 k1 r1 => hk sv S1 v H1 h (hf.kp s1 k1) s1 k1 (hE.kp k1) r1
    | exc x S1 =>
      cases h
      exact XS.of hf
theorem TXs.stm {e : Exs} {g : List SV → Sto → Option Flow} {f : Ow} {σ : Sg} {S : Sto} {σV : L2.St} {H : Hp} {r : Flow} {D : Ends} {Q : List V → Hp → Prop} (hE : EnvR X.K f H σV σ) (hS : StoR X.K f S H) (h : Sm.bnd (e σ S) g = some r) (hf : Fl X W f H D r)
    (hk : ∀ (sv : List SV) (S1 : Sto) (v : List V) (H1 : Hp), g sv S1 = some r → Fl X W f H1 D r → StoR X.K f S1 H1 → Kp f H H1 → EnvR X.K f H1 σV σ → Paired (SvR X.K f H1) v sv → Q v H1) : TXs X W e σV H Q := by
  cases e1 : e σ S with
  | none => rw [e1] at h; cases h
  | some q =>
    rw [e1] at h
    refine ⟨f, σ, S, q, hE, hS, e1, ?_⟩
    cases q with
    | ok sv S1 => exact fun v H1 s1 k1 r1 => hk sv S1 v H1 h (hf.kp s1 k1) s1 k1 (hE.kp k1) r1
    | exc x S1 =>
      cases h
      exact XS.of hf
theorem TT_.stm {e : Tst} {g : Bool → Sto → Option Flow} {f : Ow} {σ : Sg} {S : Sto} {σV : L2.St} {H : Hp} {r : Flow} {D : Ends} {Q : Bool → Hp → Prop} (hE : EnvR X.K f H σV σ) (hS : StoR X.K f S H) (h : Sm.bnd (e σ S) g = some r) (hf : Fl X W f H D r)
    (hk : ∀ (sv : Bool) (S1 : Sto) (H1 : Hp), g sv S1 = some r → Fl X W f H1 D r → StoR X.K f S1 H1 → Kp f H H1 → EnvR X.K f H1 σV σ → Q sv H1) : TT_ X W e σV H Q := by
  cases e1 : e σ S with
  | none => rw [e1] at h; cases h
  | some q =>
    rw [e1] at h
    refine ⟨f, σ, S, q, hE, hS, e1, ?_⟩
    cases q with
    | ok sv S1 => exact fun H1 s1 k1 => hk sv S1 H1 h (hf.kp s1 k1) s1 k1 (hE.kp k1)
    | exc x S1 =>
      cases h
      exact XS.of hf
theorem TN.stm {e : Nw} {g : Ob → Sto → Option Flow} {f : Ow} {σ : Sg} {S : Sto} {σV : L2.St} {H : Hp} {r : Flow} {D : Ends} {Q : VK} (hE : EnvR X.K f H σV σ) (hS : StoR X.K f S H) (h : Sm.bnd (e σ S) g = some r) (hf : Fl X W f H D r)
    (hk : ∀ (ob : Ob) (S1 : Sto) (p : Addr) (H1 : Hp), g ob S1 = some r → Fl X W (f.add [p]) H1 D r → StoR X.K (f.add [p]) (S1 ++ [ob]) H1 → Kp f H H1 → EnvR X.K (f.add [p]) H1 σV σ → H p = none → Q (.ref p) H1) : TN X W e σV H Q := by
  cases e1 : e σ S with
  | none => rw [e1] at h; cases h
  | some q =>
    rw [e1] at h
    refine ⟨f, σ, S, q, hE, hS, e1, ?_⟩
    cases q with
    | ok ob S1 =>
      intro p H1 np s1 k1
      have n1 : ∀ a ∈ [p], H a = none := fun a m => by
        have e : a = p := by simpa using m
        rw [e]; exact np
      exact hk ob S1 p H1 h (hf.step n1 s1 k1) s1 k1 (hE.keep k1.q (Gr.app n1) (Pf.add _ _)) np
    | exc x S1 =>
      cases h
      exact XS.of hf
theorem ReS.now {f : Ow} {H : Hp} {σV : L2.St} {σ : Sg} {S : Sto} {P : L2.St → Hp → Prop} (h : ReS X f H σ S P) (s : StoR X.K f S H) (e : EnvR X.K f H σV σ) : P σV H :=
  h [] σV H (fun _ z => nomatch z) (by rw [Ow.add_nil]; exact s) (Kp.refl _ _) (by rw [Ow.add_nil]; exact e)
theorem ReV.now {f : Ow} {H : Hp} {u : V} {v : SV} {S : Sto} {P : V → Hp → Prop} (h : ReV X f H v S P) (s : StoR X.K f S H) (e : SvR X.K f H u v) : P u H :=
  h [] u H (fun _ z => nomatch z) (by rw [Ow.add_nil]; exact s) (Kp.refl _ _) (by rw [Ow.add_nil]; exact e)
theorem EnvR.set {f : Ow} {H : Hp} {σV : L2.St} {σ : Sg} {v : V} {x : SV} (h : EnvR X.K f H σV σ) (i : Nat) (r : SvR X.K f H v x) : EnvR X.K f H (σV.set i (some v)) (σ.set i (some x)) := by
  refine ⟨by simp [h.len], fun j y e => ?_⟩
  by_cases hj : i = j
  · subst hj
    have hi : i < σ.length := by
      have := (List.getElem?_eq_some_iff.mp e).1
      simpa using this
    rw [List.getElem?_set_self hi] at e
    cases e
    exact ⟨v, by rw [List.getElem?_set_self (by rw [h.len]; exact hi)], r⟩
  · rw [List.getElem?_set_ne hj] at e
    obtain ⟨u, e1, r1⟩ := h.get j y e
    exact ⟨u, by rw [List.getElem?_set_ne hj]; exact e1, r1⟩
end

/-! ### targets: what is given is data -/
abbrev Tg := PyData → Sg → Option Sg
@[simp] def gVar (i : Nat) (d : PyData) (σ : Sg) : Option Sg := some (σ.set i (some (.d d)))
@[simp] def gPair (a b : Tg) (d : PyData) (σ : Sg) : Option Sg := match d with
  | .tuple [x, y] => (a x σ).bind (b y)
  | _ => none
@[simp] def gTrip (a b c : Tg) (d : PyData) (σ : Sg) : Option Sg := match d with
  | .tuple [x, y, z] => ((a x σ).bind (b y)).bind (c z)
  | _ => none
/-- two frames that agree outside some slots -/
def Agr (is : List Nat) (a b : L2.St) : Prop := b.length = a.length ∧ ∀ j, j ∉ is → b[j]? = a[j]?
theorem Agr.trans {is js : List Nat} {a b c : L2.St} (h : Agr is a b) (k : Agr js b c) : Agr (is ++ js) a c :=
  ⟨k.1.trans h.1, fun j n => (k.2 j fun m => n (List.mem_append_right _ m)).trans (h.2 j fun m => n (List.mem_append_left _ m))⟩
def TG_ (X : Cx) (g : Tg) (is : List Nat) : TG := fun v σV H Q => ∃ (f : Ow) (σ σ' : Sg) (d : PyData), EnvR X.K f H σV σ ∧ Is X.K f H v d ∧ g d σ = some σ' ∧ ∀ σV', EnvR X.K f H σV' σ' → Agr is σV σV' → Q σV' H
def DG (X : Cx) (e : Expr) (g : Tg) (is : List Nat) : Prop := PG X e (TG_ X g is)
theorem pg_imp {X : Cx} {e : Expr} {t t' : TG} (h : PG X e t) (i : ∀ v σ H Q, t' v σ H Q → t v σ H Q) : PG X e t' := ⟨fun pins s σ H v u Q I r q => h.run pins s σ H v u Q I r (i v σ H Q q)⟩
section
variable {X : Cx} {W : WX} {pos : Pos}
theorem dg_var {i : Nat} {x : Str} (hN : X.N.Nodup) (hi : X.N[i]? = some x := by rfl) (hx : Loc X.env.scope x := by first | exact Or.inl rfl | exact Or.inr rfl) (hf : X.fn x = true ∨ X.env.scope.names.lookup x = some .local := by first | exact .inl rfl | exact .inr rfl) : DG X (.Name x pos) (gVar i) [i] :=
  pg_imp (pg_name hN hi hx hf) fun v σV H Q ⟨f, σ, σ', d, hE, hv, hg, q⟩ => by
    cases hg
    exact q _ (hE.set i hv) ⟨by simp, fun j n => List.getElem?_set_ne fun z => n (by simp [z])⟩
theorem dg_pair {e1 e2 : Expr} {k : Nat} {g1 g2 : Tg} {i1 i2 : List Nat} (hc : X.calm = true) (h1 : DG X e1 g1 i1) (h2 : DG X e2 g2 i2)
    (hs1 : (assignEach [e1, e2] X.env).map (·.2) = assign e1 X.env :: (assignEach [e2] X.env).map (·.2) := by rfl) (hs2 : (assignEach [e2] X.env).map (·.2) = assign e2 X.env :: (assignEach [] X.env).map (·.2) := by rfl)
    (hn : (assignEach [e1, e2] X.env).length = 2 := by rfl) (hst : (assignEach [e1, e2] X.env).findIdx? (·.1) = none := by rfl) : DG X (.Tuple [e1, e2] k pos) (gPair g1 g2) (i1 ++ i2) :=
  pg_imp (pg_tup hc (pgs_cons h1 (pgs_cons h2 pgs_nil hs2) hs1) hn hst) fun v σV H Q ⟨f, σ, σ', d, hE, hv, hg, q⟩ => by
    unfold gPair at hg
    split at hg
    · rename_i x y
      cases hv with
      | @tup a xs _ ht ha =>
      cases ha with
      | @cons v1 vs1 _ _ h1' r1 =>
      cases r1 with
      | @cons v2 vs2 _ _ h2' r2 =>
      cases r2
      cases hg1 : g1 x σ with
      | none => rw [hg1] at hg; cases hg
      | some σ1 =>
        rw [hg1] at hg
        have hg : g2 y σ1 = some σ' := hg
        exact ⟨a, _, rfl, ht.sq, rfl, v1, [v2], rfl, ⟨f, σ, σ1, x, hE, h1', hg1, fun σV1 e1 a1 => ⟨v2, [], rfl, ⟨f, σ1, σ', y, e1, h2', hg, fun σV2 e2 a2 => ⟨rfl, q σV2 e2 (a1.trans a2)⟩⟩⟩⟩⟩
    · cases hg
theorem dg_trip {e1 e2 e3 : Expr} {k : Nat} {g1 g2 g3 : Tg} {i1 i2 i3 : List Nat} (hc : X.calm = true) (h1 : DG X e1 g1 i1) (h2 : DG X e2 g2 i2) (h3 : DG X e3 g3 i3)
    (hs1 : (assignEach [e1, e2, e3] X.env).map (·.2) = assign e1 X.env :: (assignEach [e2, e3] X.env).map (·.2) := by rfl) (hs2 : (assignEach [e2, e3] X.env).map (·.2) = assign e2 X.env :: (assignEach [e3] X.env).map (·.2) := by rfl)
    (hs3 : (assignEach [e3] X.env).map (·.2) = assign e3 X.env :: (assignEach [] X.env).map (·.2) := by rfl)
    (hn : (assignEach [e1, e2, e3] X.env).length = 3 := by rfl) (hst : (assignEach [e1, e2, e3] X.env).findIdx? (·.1) = none := by rfl) : DG X (.Tuple [e1, e2, e3] k pos) (gTrip g1 g2 g3) (i1 ++ i2 ++ i3) :=
  pg_imp (pg_tup hc (pgs_cons h1 (pgs_cons h2 (pgs_cons h3 pgs_nil hs3) hs2) hs1) hn hst) fun v σV H Q ⟨f, σ, σ', d, hE, hv, hg, q⟩ => by
    unfold gTrip at hg
    split at hg
    · rename_i x y z
      cases hv with
      | @tup a xs _ ht ha =>
      cases ha with
      | @cons v1 vs1 _ _ h1' r1 =>
      cases r1 with
      | @cons v2 vs2 _ _ h2' r2 =>
      cases r2 with
      | @cons v3 vs3 _ _ h3' r3 =>
      cases r3
      cases hg1 : g1 x σ with
      | none => rw [hg1] at hg; cases hg
      | some σ1 =>
        rw [hg1] at hg
        have hg : (g2 y σ1).bind (g3 z) = some σ' := hg
        cases hg2 : g2 y σ1 with
        | none => rw [hg2] at hg; cases hg
        | some σ2 =>
          rw [hg2] at hg
          have hg : g3 z σ2 = some σ' := hg
          exact ⟨a, _, rfl, ht.sq, rfl, v1, [v2, v3], rfl, ⟨f, σ, σ1, x, hE, h1', hg1, fun σV1 e1 a1 => ⟨v2, [v3], rfl, ⟨f, σ1, σ2, y, e1, h2', hg2, fun σV2 e2 a2 => ⟨v3, [], rfl, ⟨f, σ2, σ', z, e2, h3', hg, fun σV3 e3 a3 => ⟨rfl, q σV3 e3 ((a1.trans a2).trans a3)⟩⟩⟩⟩⟩⟩⟩
    · cases hg

/-! ### plain statements -/
@[simp] def sNil (σ : Sg) (S : Sto) : Option Flow := some (.nx σ S)
@[simp] def sSet (i : Nat) (e : Ex) (σ : Sg) (S : Sto) : Option Flow := Sm.bnd (e σ S) fun v S1 => some (.nx (σ.set i (some v)) S1)
@[simp] def sNew (i : Nat) (e : Nw) (σ : Sg) (S : Sto) : Option Flow := Sm.bnd (e σ S) fun ob S1 => some (.nx (σ.set i (some (.r S1.length))) (S1 ++ [ob]))
@[simp] def sAsg (g : Tg) (e : Ex) (σ : Sg) (S : Sto) : Option Flow := Sm.bnd (e σ S) fun v S1 => match v with
  | .d d => (g d σ).map fun σ' => .nx σ' S1
  | _ => none
@[simp] def sDo (e : Ex) (σ : Sg) (S : Sto) : Option Flow := Sm.bnd (e σ S) fun _ S1 => some (.nx σ S1)
@[simp] def sRet (e : Ex) (σ : Sg) (S : Sto) : Option Flow := Sm.bnd (e σ S) fun v S1 => some (.rt v S1)
@[simp] def sRetNew (e : Nw) (σ : Sg) (S : Sto) : Option Flow := Sm.bnd (e σ S) fun ob S1 => some (.rt (.r S1.length) (S1 ++ [ob]))
@[simp] def sRetN (_ : Sg) (S : Sto) : Option Flow := some (.rt (.d .none) S)
@[simp] def sIf (c : Tst) (a b : Sm) (σ : Sg) (S : Sto) : Option Flow := Sm.bnd (c σ S) fun x S1 => if x = true then a σ S1 else b σ S1
@[simp] def sSeq (a b : Sm) (σ : Sg) (S : Sto) : Option Flow := match a σ S with
  | some (.nx σ' S') => b σ' S'
  | r => r
@[simp] def sPar (i j : Nat) (as : Exs) (σ : Sg) (S : Sto) : Option Flow := Sm.bnd (as σ S) fun vs S1 => match vs with
  | [x, y] => some (.nx ((σ.set i (some x)).set j (some y)) S1)
  | _ => none

variable {e : Expr} {ee : Ex} {en : Nw} {st : Stmt} {sts : List Stmt} {m n : Sm}
theorem ds_set {i : Nat} {x : Str} {pos' : Pos} (hN : X.N.Nodup) (hi : X.N[i]? = some x) (hx : Loc X.env.scope x) (he : DE X W e ee) (hs : swapsWith e (some (.Name x pos')) pos.line X.env = pure false := by rfl) (hf : X.fn x = true ∨ X.env.scope.names.lookup x = some .local := by first | exact .inl rfl | exact .inr rfl) :
    DS X W (.Assign [.Name x pos'] e pos) (sSet i ee) :=
  ps_imp (ps_set hN hi hx he hs hf) fun D σV H ⟨f, σ, S, r, hE, hS, hr, hf⟩ => by
    refine TX.stm hE hS hr hf fun v S1 u H1 h1 f1 s1 k1 e1 r1 => ?_
    cases h1
    exact ReS.now f1 s1 (e1.set i r1)
theorem ds_new {i : Nat} {x : Str} {pos' : Pos} (hN : X.N.Nodup) (hi : X.N[i]? = some x) (hx : Loc X.env.scope x) (he : DN X W e en) (hs : swapsWith e (some (.Name x pos')) pos.line X.env = pure false := by rfl) (hf : X.fn x = true ∨ X.env.scope.names.lookup x = some .local := by first | exact .inl rfl | exact .inr rfl) :
    DS X W (.Assign [.Name x pos'] e pos) (sNew i en) :=
  ps_imp (ps_set hN hi hx he hs hf) fun D σV H ⟨f, σ, S, r, hE, hS, hr, hf⟩ => by
    refine TN.stm hE hS hr hf fun ob S1 p H1 h1 f1 s1 k1 e1 _ => ?_
    cases h1
    refine ReS.now f1 s1 (e1.set i ⟨p, ?_, rfl⟩)
    have hl : f.o.length = S1.length := by
      have := s1.len
      simp [Ow.add] at this
      exact this
    show (f.o ++ [p])[S1.length]? = some p
    rw [← hl]; simp
theorem ds_asg {tg : Expr} {g : Tg} {is : List Nat} (he : DE X W e ee) (hg : DG X tg g is) (hs : swapsWithSole [tg] e pos.line X.env = pure false := by rfl) (hw : swappedStores [tg] e X.env = pure none := by rfl)
    (h1 : (assignEach [tg] X.env).map (·.2) = [assign tg X.env] := by rfl) : DS X W (.Assign [tg] e pos) (sAsg g ee) :=
  ps_imp (ps_asg he hg hs hw h1) fun D σV H ⟨f, σ, S, r, hE, hS, hr, hf⟩ => by
    refine TX.stm hE hS hr hf fun v S1 u H1 h1 f1 s1 k1 e1 r1 => ?_
    cases v with
    | r i => cases h1
    | s ns => cases h1
    | k a x c d => cases h1
    | t a1 a2 a3 a4 a5 => cases h1
    | d d =>
      cases hg : g d σ with
      | none =>
        dsimp only at h1
        rw [hg] at h1; cases h1
      | some σ' =>
        dsimp only at h1
        rw [hg] at h1; cases h1
        exact ⟨f, σ, σ', d, e1, r1, hg, fun σV' e' _ => ReS.now f1 s1 e'⟩
theorem ds_do (he : DE X W e ee) (hs : swapsWith e none pos.line X.env = pure false := by rfl) : DS X W (.Expr e pos) (sDo ee) :=
  ps_imp (ps_expr he hs) fun D σV H ⟨f, σ, S, r, hE, hS, hr, hf⟩ => by
    refine TX.stm hE hS hr hf fun v S1 u H1 h1 f1 s1 k1 e1 r1 => ?_
    cases h1
    exact ReS.now f1 s1 e1
theorem ds_ret (he : DE X W e ee) : DS X W (.Return (some e) pos) (sRet ee) :=
  ps_imp (ps_ret he) fun D σV H ⟨f, σ, S, r, hE, hS, hr, hf⟩ => by
    refine TX.stm hE hS hr hf fun v S1 u H1 h1 f1 s1 k1 e1 r1 => ?_
    cases h1
    exact ReV.now f1 s1 r1
theorem ds_retNew (he : DN X W e en) : DS X W (.Return (some e) pos) (sRetNew en) :=
  ps_imp (ps_ret he) fun D σV H ⟨f, σ, S, r, hE, hS, hr, hf⟩ => by
    refine TN.stm hE hS hr hf fun ob S1 p H1 h1 f1 s1 k1 e1 _ => ?_
    cases h1
    refine ReV.now f1 s1 ⟨p, ?_, rfl⟩
    have hl : f.o.length = S1.length := by
      have := s1.len
      simp [Ow.add] at this
      exact this
    show (f.o ++ [p])[S1.length]? = some p
    rw [← hl]; simp
theorem ds_retN : DS X W (.Return none pos) sRetN :=
  ps_imp ps_retN fun D σV H ⟨f, σ, S, r, hE, hS, hr, hf⟩ => by
    cases hr
    exact ReV.now hf hS Is.non
theorem ds_pass : DS X W (.Pass pos) sNil := ps_imp ps_pass fun D σV H ⟨f, σ, S, r, hE, hS, hr, hf⟩ => by
  cases hr
  exact ReS.now hf hS hE
@[simp] def sBrk (σ : Sg) (S : Sto) : Option Flow := some (.bk σ S)
@[simp] def sCont (σ : Sg) (S : Sto) : Option Flow := some (.ct σ S)
theorem ds_break : DS X W (.Break pos) sBrk := ps_imp ps_break fun D σV H ⟨f, σ, S, r, hE, hS, hr, hf⟩ => by
  cases hr
  exact ReS.now hf hS hE
theorem ds_cont : DS X W (.Continue pos) sCont := ps_imp ps_continue fun D σV H ⟨f, σ, S, r, hE, hS, hr, hf⟩ => by
  cases hr
  exact ReS.now hf hS hE
/-- what is never reached -/
@[simp] def sNo (_ : Sg) (_ : Sto) : Option Flow := none
theorem ds_no : DS X W st sNo := ps_imp ps_never fun D σV H ⟨f, σ, S, r, hE, hS, hr, hf⟩ => nomatch hr
theorem db_no : DB X W sts sNo := pss_imp pss_never fun D σV H ⟨f, σ, S, r, hE, hS, hr, hf⟩ => nomatch hr
theorem db_nil : DB X W [] sNil := pss_imp pss_nil fun D σV H ⟨f, σ, S, r, hE, hS, hr, hf⟩ => by
  cases hr
  exact ReS.now hf hS hE
theorem db_one (h : DS X W st m) : DB X W [st] m := pss_one h
theorem db_cons (h1 : DS X W st m) (h2 : DB X W sts n) : DB X W (st :: sts) (sSeq m n) :=
  pss_imp (pss_cons h1 h2) fun D σV H ⟨f, σ, S, r, hE, hS, hr, hf⟩ => by
    cases hm : m σ S with
    | none =>
      unfold sSeq at hr
      rw [hm] at hr; cases hr
    | some q =>
      unfold sSeq at hr
      rw [hm] at hr
      refine ⟨f, σ, S, q, hE, hS, hm, ?_⟩
      cases q with
      | nx σ' S' =>
        intro ex σV' H' n1 s1 k1 e1
        exact ⟨f.add ex, σ', S', r, e1, s1, hr, hf.step n1 s1 k1⟩
      | rt v S' => cases hr; exact hf
      | bk σ' S' => cases hr; exact hf
      | ct σ' S' => cases hr; exact hf
      | exc x S' => cases hr; exact hf
theorem ds_if {c : Expr} {tc : Tst} {a b : List Stmt} (hc : DT X W c tc) (ha : DB X W a m) (hb : DB X W b n) : DS X W (.If c a b pos) (sIf tc m n) :=
  ps_imp (ps_if hc ha hb) fun D σV H ⟨f, σ, S, r, hE, hS, hr, hf⟩ => by
    refine TT_.stm hE hS hr hf fun x S1 H1 h1 f1 s1 k1 e1 => ?_
    cases x with
    | true =>
      rw [if_pos rfl] at h1 ⊢
      exact ⟨f, σ, S1, r, e1, s1, h1, f1⟩
    | false =>
      rw [if_neg Bool.false_ne_true] at h1 ⊢
      exact ⟨f, σ, S1, r, e1, s1, h1, f1⟩
theorem ds_par {i j : Nat} {x y : Str} {a b : Expr} {fs : Exs} {px py pt : Pos} {kt k2 pt2} (hc : X.calm = true) (hN : X.N.Nodup) (ha : DA X W [a, b] fs) (hi : X.N[i]? = some x := by rfl) (hj : X.N[j]? = some y := by rfl) (hij : i ≠ j := by decide)
    (hx : X.env.scope.names.lookup x = some .local := by rfl) (hy : X.env.scope.names.lookup y = some .local := by rfl)
    (hw : swappedStores [.Tuple [.Name x px, .Name y py] kt pt] (.Tuple [a, b] k2 pt2) X.env = pure (some [x, y]) := by rfl)
    (hs : swapsWithSole [.Tuple [.Name x px, .Name y py] kt pt] (.Tuple [a, b] k2 pt2) pos.line X.env = pure false := by rfl) :
    DS X W (.Assign [.Tuple [.Name x px, .Name y py] kt pt] (.Tuple [a, b] k2 pt2) pos) (sPar i j fs) :=
  ps_imp (ps_par hc hN hi hj hij hx hy ha hw hs) fun D σV H ⟨f, σ, S, r, hE, hS, hr, hf⟩ => by
    refine TXs.stm hE hS hr hf fun vs S1 us H1 h1 f1 s1 k1 e1 r1 => ?_
    split at h1
    · cases h1
      cases r1 with
      | cons p1 q1 =>
      cases q1 with
      | cons p2 q2 =>
      cases q2
      exact ⟨_, _, rfl, ReS.now f1 s1 ((e1.set i p1).set j p2)⟩
    · cases h1
end
end Z
set_option maxRecDepth 100000
namespace Z
open PySem PySem.Spec PyProof.Rows L2

/-! ## loops -/
/-- what is walked: the items; a list of the store that must stay as it is -/
structure Wk where
  ds : List PyData
  own : Option (Nat × List PyData) := none
abbrev Wl := Sg → Sto → Option (Res Wk)
def gdOk (o : Option (Nat × List PyData)) (S : Sto) : Prop := match o with
  | none => True
  | some (j, ds) => S[j]? = some (.lst ds)
structure Walks (X : Cx) (f : Ow) (H : Hp) (J : It) (w : Wk) : Prop where
  item : ∀ (i : Nat) (d : PyData) (f' : Ow) (S : Sto) (H' : Hp), w.ds[i]? = some d → Kq f H H' → Gr f f' H → Pf f f' → StoR X.K f' S H' → gdOk w.own S →
    J.go i H' ∧ ∀ x H'', J.yld i H' x H'' → StoR X.K f' S H'' ∧ Kp f' H' H'' ∧ Is X.K f' H'' x d
  stop : ∀ (i : Nat) (f' : Ow) (S : Sto) (H' : Hp), w.ds.length ≤ i → Kq f H H' → Gr f f' H → Pf f f' → StoR X.K f' S H' → gdOk w.own S → J.stop i H'
def TI_ (X : Cx) (W : WX) (w : Wl) : TI := fun σV H R => ∃ (f : Ow) (σ : Sg) (S : Sto) (r : Res Wk), EnvR X.K f H σV σ ∧ StoR X.K f S H ∧ w σ S = some r ∧
  match r with
  | .ok wk S' => ∀ (J : It) (H' : Hp), StoR X.K f S' H' → Kp f H H' → Walks X f H' J wk → R J H'
  | .exc x S' => XS X W f σV H x S'
def DI (X : Cx) (W : WX) (tg iter : Expr) (w : Wl) : Prop := PI X tg iter (TI_ X W w)
theorem pi_imp {X : Cx} {tg e : Expr} {t t' : TI} (h : PI X tg e t) (i : ∀ σ H Q, t' σ H Q → t σ H Q) : PI X tg e t' := ⟨fun pins s σ H Q I q => h.run pins s σ H Q I (i σ H Q q)⟩

open Classical in
noncomputable def forGo (own : Option (Nat × List PyData)) (g : Tg) (body : Sm) : List PyData → Sm
  | [] => fun σ S => if gdOk own S then some (.nx σ S) else none
  | d :: ds => fun σ S => if gdOk own S then (g d σ).bind fun σ1 => match body σ1 S with
    | some (.nx σ2 S2) => forGo own g body ds σ2 S2
    | some (.ct σ2 S2) => forGo own g body ds σ2 S2
    | some (.bk σ2 S2) => some (.nx σ2 S2)
    | some (.rt v S2) => some (.rt v S2)
    | some (.exc x S2) => some (.exc x S2)
    | none => none
    else none
@[simp] noncomputable def sFor (w : Wl) (g : Tg) (body : Sm) (σ : Sg) (S : Sto) : Option Flow := Sm.bnd (w σ S) fun wk S1 => forGo wk.own g body wk.ds σ S1
section
variable {X : Cx} {W : WX} {pos : Pos} {tg iter : Expr} {w : Wl} {g : Tg} {body : List Stmt} {m : Sm}
theorem ds_for (hp : PassesOwn (model X.prog X.w) X.A X.env X.xe) (hc : X.calm = true) (hi : DI X W tg iter w) {is : List Nat} (hg : DG X tg g is) (hb : DB X W body m) (hs : ∀ x, foldedSetIterable iter X.env x = pure x := by intro _; rfl) :
    DS X W (.For tg iter body [] pos) (sFor w g m) :=
  ps_imp (ps_for hp hc hi hg hb hs) fun D σV H ⟨f, σ, S, r, hE, hS, hr, hf⟩ => by
    unfold sFor at hr
    cases e1 : w σ S with
    | none => rw [e1] at hr; cases hr
    | some q =>
    rw [e1] at hr
    refine ⟨f, σ, S, q, hE, hS, e1, ?_⟩
    cases q with
    | exc x S1 =>
      cases hr
      exact XS.of hf
    | ok wk S1 =>
    intro J H1 s1 k1 wks
    have f1 := hf.kp s1 k1
    have hr : forGo wk.own g m wk.ds σ S1 = some r := hr
    refine ⟨fun i mm σV2 H2 => mm = wk.ds.length - i ∧ i ≤ wk.ds.length ∧ ∃ (ex : List Addr) (σ2 : Sg) (S2 : Sto), Kp f H1 H2 ∧ (∀ a ∈ ex, H1 a = none) ∧ EnvR X.K (f.add ex) H2 σV2 σ2 ∧ StoR X.K (f.add ex) S2 H2 ∧ forGo wk.own g m (wk.ds.drop i) σ2 S2 = some r ∧ Fl X W (f.add ex) H2 D r,
      ⟨_, by rfl, Nat.zero_le _, [], σ, S1, Kp.refl _ _, (fun _ z => nomatch z), by rw [Ow.add_nil]; exact hE.kp k1, by rw [Ow.add_nil]; exact s1, hr, by rw [Ow.add_nil]; exact f1⟩, ?_⟩
    rintro i mm σV2 H2 ⟨rfl, hi, ex, σ2, S2, k2, n2, e2, s2, r2, f2⟩
    by_cases hlt : i < wk.ds.length
    · right
      rw [List.drop_eq_getElem_cons hlt] at r2
      unfold forGo at r2
      split at r2
      · rename_i hgd
        have hget : wk.ds[i]? = some wk.ds[i] := List.getElem?_eq_getElem hlt
        obtain ⟨go, yl⟩ := wks.item i _ (f.add ex) S2 H2 hget k2.q (Gr.app n2) (Pf.add _ _) s2 hgd
        cases hgs : g wk.ds[i] σ2 with
        | none => rw [hgs] at r2; cases r2
        | some σ3 =>
        rw [hgs] at r2
        dsimp only [Option.bind_some] at r2
        refine ⟨go, fun σV' H' => (i + 1 ≤ wk.ds.length ∧ ∃ (ex : List Addr) (σ2 : Sg) (S2 : Sto), Kp f H1 H' ∧ (∀ a ∈ ex, H1 a = none) ∧ EnvR X.K (f.add ex) H' σV' σ2 ∧ StoR X.K (f.add ex) S2 H' ∧ forGo wk.own g m (wk.ds.drop (i + 1)) σ2 S2 = some r ∧ Fl X W (f.add ex) H' D r), fun σV' H' h => ⟨wk.ds.length - (i + 1), by omega, rfl, h.1, h.2⟩, fun x H3 hy => ?_⟩
        obtain ⟨s3, k3, i3⟩ := yl x H3 hy
        refine ⟨f.add ex, σ2, σ3, _, e2.kp k3, i3, hgs, fun σV3 e3 _ => ?_⟩
        have f3 := f2.kp s3 k3
        cases hm : m σ3 S2 with
        | none => rw [hm] at r2; cases r2
        | some q =>
        rw [hm] at r2
        refine ⟨f.add ex, σ3, S2, q, e3, s3, hm, ?_⟩
        have next : ∀ (σ' : Sg) (S' : Sto), forGo wk.own g m (wk.ds.drop (i + 1)) σ' S' = some r → ReS X (f.add ex) H3 σ' S' (fun σV' H' => (i + 1 ≤ wk.ds.length ∧ ∃ (ex : List Addr) (σ2 : Sg) (S2 : Sto), Kp f H1 H' ∧ (∀ a ∈ ex, H1 a = none) ∧ EnvR X.K (f.add ex) H' σV' σ2 ∧ StoR X.K (f.add ex) S2 H' ∧ forGo wk.own g m (wk.ds.drop (i + 1)) σ2 S2 = some r ∧ Fl X W (f.add ex) H' D r)) := by
          intro σ' S' hgo ex' σV' H' n' s' k' e'
          have k23 : Kp f H1 H3 := Kp.more n2 k2 k3
          exact ⟨hlt, ex ++ ex', σ', S', Kp.more n2 k23 k', fresh_app (X := X) n2 s3 k23 s3.all n', by rw [← Ow.add_add]; exact e', by rw [← Ow.add_add]; exact s', hgo, by rw [← Ow.add_add]; exact f3.step n' s' k'⟩
        cases q with
        | nx σ' S' => exact next σ' S' r2
        | ct σ' S' => exact next σ' S' r2
        | bk σ' S' => cases r2; exact f3
        | rt v S' => cases r2; exact f3
        | exc x S' => cases r2; exact f3
      · cases r2
    · left
      have hi2 : i = wk.ds.length := by omega
      subst hi2
      rw [List.drop_length] at r2
      unfold forGo at r2
      split at r2
      · rename_i hgd
        cases r2
        exact ⟨wks.stop _ (f.add ex) S2 H2 (Nat.le_refl _) k2.q (Gr.app n2) (Pf.add _ _) s2 hgd, ReS.now f2 s2 e2⟩
      · cases r2
end
/-! ## comprehensions -/
@[simp] def wipeS (σ : Sg) : List Nat → Sg
  | [] => σ
  | i :: vs => (wipeS σ vs).set i none
theorem wipe_get {σ : L2.St} {j : Nat} : ∀ {vs : List Nat}, (wipe σ vs)[j]? = if j ∈ vs ∧ j < σ.length then some none else σ[j]?
  | [] => by simp [wipe]
  | i :: vs => by
    have ih := wipe_get (σ := σ) (j := j) (vs := vs)
    have hl := wipe_length σ vs
    by_cases hj : i = j
    · subst hj
      by_cases h : i < σ.length
      · simp [wipe, h, hl]
      · simp [wipe, h, hl]
    · simp only [wipe]
      rw [List.getElem?_set_ne hj, ih]
      have : (j ∈ i :: vs) ↔ j ∈ vs := by
        constructor
        · intro m
          rcases List.mem_cons.mp m with m | m
          · exact absurd m.symm hj
          · exact m
        · exact List.mem_cons_of_mem _
      simp only [this]
theorem wipe_agr {vs is : List Nat} {a b : L2.St} (h : Agr is a b) (hs : ∀ i ∈ is, i ∈ vs) : wipe b vs = wipe a vs := by
  apply List.ext_getElem?
  intro j
  rw [wipe_get, wipe_get, h.1]
  by_cases hj : j ∈ vs ∧ j < a.length
  · rw [if_pos hj, if_pos hj]
  · rw [if_neg hj, if_neg hj]
    by_cases hv : j ∈ is
    · have : ¬ j < a.length := fun z => hj ⟨hs j hv, z⟩
      have hb : ¬ j < b.length := by rw [h.1]; exact this
      rw [List.getElem?_eq_none (by omega), List.getElem?_eq_none (by omega)]
    · exact h.2 j hv
theorem wipe_wipe {vs : List Nat} {a : L2.St} : wipe (wipe a vs) vs = wipe a vs := by
  apply List.ext_getElem?
  intro j
  rw [wipe_get, wipe_get, wipe_length]
  by_cases hj : j ∈ vs ∧ j < a.length
  · rw [if_pos hj, if_pos hj]
  · rw [if_neg hj]
theorem EnvR.wipe {K : PySem.W.Frag} {f : Ow} {H : Hp} {σV : L2.St} {σ : Sg} (h : EnvR K f H σV σ) : ∀ vs : List Nat, EnvR K f H (wipe σV vs) (wipeS σ vs)
  | [] => h
  | i :: vs => by
    have ih := EnvR.wipe h vs
    refine ⟨by simp [L2.wipe, wipeS, ih.len], fun j y e => ?_⟩
    unfold wipeS at e
    unfold L2.wipe
    by_cases hj : i = j
    · subst hj
      by_cases hi : i < (wipeS σ vs).length
      · rw [List.getElem?_set_self hi] at e; cases e
      · rw [List.getElem?_eq_none (by simpa using hi)] at e; cases e
    · rw [List.getElem?_set_ne hj] at e
      obtain ⟨u, e1, r1⟩ := ih.get j y e
      exact ⟨u, by rw [List.getElem?_set_ne hj]; exact e1, r1⟩
open Classical in
/-- what a comprehension makes: the store behind it, the items -/
noncomputable def cmpGo (own : Option (Nat × List PyData)) (g : Tg) (t : Tst) (e : Ex) (σ0 : Sg) : List PyData → List PyData → Sto → Option (Sto × List PyData)
  | [], acc, S => if gdOk own S then some (S, acc) else none
  | d :: ds, acc, S => if gdOk own S then (g d σ0).bind fun σ1 => match t σ1 S with
    | some (.ok true S1) => match e σ1 S1 with
      | some (.ok (.d x) S2) => if acc.length < sizeLine then cmpGo own g t e σ0 ds (acc ++ [x]) S2 else none
      | _ => none
    | some (.ok false S1) => cmpGo own g t e σ0 ds acc S1
    | _ => none
    else none
@[simp] noncomputable def eComp (w : Wl) (g : Tg) (t : Tst) (e : Ex) (vs : List Nat) (σ : Sg) (S : Sto) : Option (Res SV) := Res.bnd (w σ S) fun wk S1 => (cmpGo wk.own g t e (wipeS σ vs) wk.ds [] S1).map fun r => .ok (.d (.list r.2)) r.1
/-- no exception leaves a comprehension -/
def W0 : WX := fun _ _ _ _ => False
@[simp] def tTrue (_ : Sg) (S : Sto) : Option (Res Bool) := some (.ok true S)
theorem lc_go {X : Cx} {W : WX} {w : Wl} {g : Tg} {is vs : List Nat} {t : Tst} {e : Ex} (his : ∀ i ∈ is, i ∈ vs) {σV : L2.St} {H : Hp} {Q : VK} (h : TX X W (eComp w g t e vs) σV H Q) : tLc (TI_ X W w) (TG_ X g is) (TT_ X W0 t) (TX X W0 e) vs σV H Q := by
  obtain ⟨f, σ, S, r, hE, hS, hr, hq⟩ := h
  unfold eComp at hr
  cases e1 : w σ S with
  | none => rw [e1] at hr; cases hr
  | some q =>
  rw [e1] at hr
  refine ⟨f, σ, S, q, hE, hS, e1, ?_⟩
  cases q with
  | exc x S1 =>
    cases hr
    exact hq
  | ok wk S1 =>
  intro J H1 s1 k1 wks D hD
  rw [bnd_ok] at hr
  cases hc : cmpGo wk.own g t e (wipeS σ vs) wk.ds [] S1 with
  | none => rw [hc] at hr; cases hr
  | some fin =>
  rw [hc] at hr
  cases hr
  have hDo : D ∉ f.o := (s1.free hD).1
  refine ⟨fun i m Hh => m = wk.ds.length - i ∧ i ≤ wk.ds.length ∧ ∃ (S2 : Sto) (acc : List PyData) (va : List V), StoR X.K (f.ban D) S2 Hh ∧ Kp f H1 Hh ∧ Hh D = some (.lst va) ∧ IsAll X.K (f.ban D) Hh va acc ∧ cmpGo wk.own g t e (wipeS σ vs) (wk.ds.drop i) acc S2 = some fin,
    ⟨_, by rfl, Nat.zero_le _, S1, [], [], s1.ban hD, Kp.new hD, upd_same, .nil, hc⟩, ?_⟩
  rintro i m Hh ⟨rfl, hi, S2, acc, va, s2, k2, eD, ia, hgo⟩
  have eE : EnvR X.K (f.ban D) Hh (wipe σV vs) (wipeS σ vs) := (((hE.kp k1).keep k2.q (Gr.ban hD) (Pf.ban _ _)).wipe vs)
  by_cases hlt : i < wk.ds.length
  · right
    rw [List.drop_eq_getElem_cons hlt] at hgo
    unfold cmpGo at hgo
    split at hgo
    · rename_i hgd
      obtain ⟨go, yl⟩ := wks.item i _ (f.ban D) S2 Hh (List.getElem?_eq_getElem hlt) k2.q (Gr.ban hD) (Pf.ban _ _) s2 hgd
      cases hgs : g wk.ds[i] (wipeS σ vs) with
      | none => rw [hgs] at hgo; cases hgo
      | some σ1 =>
      rw [hgs] at hgo
      dsimp only [Option.bind_some] at hgo
      refine ⟨go, fun H' => (i + 1 ≤ wk.ds.length ∧ ∃ (S2 : Sto) (acc : List PyData) (va : List V), StoR X.K (f.ban D) S2 H' ∧ Kp f H1 H' ∧ H' D = some (.lst va) ∧ IsAll X.K (f.ban D) H' va acc ∧ cmpGo wk.own g t e (wipeS σ vs) (wk.ds.drop (i + 1)) acc S2 = some fin), fun H' h => ⟨_, by omega, rfl, h.1, h.2⟩, fun x H3 hy => ?_⟩
      obtain ⟨s3, k3, i3⟩ := yl x H3 hy
      refine ⟨f.ban D, wipeS σ vs, σ1, _, eE.kp k3, i3, hgs, fun σV3 e3 a3 => ⟨(wipe_agr a3 his).trans wipe_wipe, ?_⟩⟩
      cases ht : t σ1 S2 with
      | none => rw [ht] at hgo; cases hgo
      | some q =>
      rw [ht] at hgo
      refine ⟨f.ban D, σ1, S2, q, e3, s3, ht, ?_⟩
      cases q with
      | exc x S' => cases hgo
      | ok b S3 =>
      intro H4 s4 k4
      have kb : Kp f Hh H4 := k3.trans k4
      cases b with
      | false =>
        rw [if_neg Bool.false_ne_true]
        exact ⟨hlt, S3, acc, va, s4, k2.trans kb, kb D _ hDo eD, ia.keep (Kp.q (f := f.ban D) kb) (Gr.refl _ _), hgo⟩
      | true =>
        rw [if_pos rfl]
        dsimp only at hgo
        cases he : e σ1 S3 with
        | none => rw [he] at hgo; cases hgo
        | some q =>
        rw [he] at hgo
        refine ⟨f.ban D, σ1, S3, q, e3.kp k4, s4, he, ?_⟩
        cases q with
        | exc x S' => cases hgo
        | ok y S4 =>
        intro v H5 s5 k5 r5
        cases y with
        | r j => cases hgo
        | s ns => cases hgo
        | k a x c d => cases hgo
        | t a1 a2 a3 a4 a5 => cases hgo
        | d y =>
        dsimp only at hgo
        split at hgo
        · rename_i hz
          have kc : Kp f Hh H5 := kb.trans k5
          have eD5 := kc D _ hDo eD
          have ia5 := ia.keep (Kp.q (f := f.ban D) kc) (Gr.refl _ _)
          refine ⟨va, eD5, by rw [ia.len]; exact hz, hlt, S4, acc ++ [y], va ++ [v], s5.sly eD5, fun a o na ea => ?_, upd_same, ?_, hgo⟩
          · rw [upd_ne (ne_of_none ea hD)]
            exact kc a o na (k2 a o na ea)
          · exact (ia5.keep Kq.sly (Gr.refl _ _)).app (.cons (Is.keep Kq.sly (Gr.refl _ _) r5) .nil)
        · cases hgo
    · cases hgo
  · left
    have hi2 : i = wk.ds.length := by omega
    subst hi2
    rw [List.drop_length] at hgo
    unfold cmpGo at hgo
    split at hgo
    · rename_i hgd
      cases hgo
      refine ⟨wks.stop _ (f.ban D) S2 Hh (Nat.le_refl _) k2.q (Gr.ban hD) (Pf.ban _ _) s2 hgd, ?_⟩
      exact hq _ Hh s2.unban (k1.trans k2) (Is.lst ⟨eD, s1.free hD⟩ (ia.keep (Kq.refl _ _) Gr.unban))
    · cases hgo
section
variable {X : Cx} {W : WX} {pos : Pos} {tg iter elt : Expr} {ifs : List Expr} {scope : Scope} {own : List (Str × Nat)} {w : Wl} {g : Tg} {t : Tst} {e : Ex} {is : List Nat}
def DTs (X : Cx) (ifs : List Expr) (t : Tst) : Prop := PTs X ifs (TT_ X W0 t)
theorem dts_nil {X : Cx} : DTs X [] tTrue := ⟨fun pins s σV H Q I ⟨f, σ, S, r, hE, hS, hr, hq⟩ => by
  cases hr
  exact pts_nil.run pins s σV H Q I (hq H hS (Kp.refl _ _))⟩
theorem dts_one {X : Cx} {c : Expr} {t : Tst} (h : DT X W0 c t) : DTs X [c] t := pts_one h
theorem de_comp (hc : X.calm = true) (hN : X.N.Nodup) (hi : DI X W tg iter w) (ok : BlkOk X.N X.env.scope scope own) (his : ∀ i ∈ is, i ∈ own.map (·.2))
    (hg : ∀ (s : Shared) (H : Hp) (C : Addr) (cl : List (Str × Addr)) (fp : List Addr), DG (X.blk s H scope (compEnvC scope cl C X.env) fp) tg g is) (ht : ∀ (s : Shared) (H : Hp) (C : Addr) (cl : List (Str × Addr)) (fp : List Addr), DTs (X.blk s H scope (compEnvC scope cl C X.env) fp) ifs t)
    (he : ∀ (s : Shared) (H : Hp) (C : Addr) (cl : List (Str × Addr)) (fp : List Addr), DE (X.blk s H scope (compEnvC scope cl C X.env) fp) W0 elt e) (hs : ∀ x, foldedSetIterable iter X.env x = pure x := by intro _; rfl) :
    DE X W (.ListComp elt [⟨tg, iter, ifs, 0⟩] scope pos) (eComp w g t e (own.map (·.2))) :=
  pe_imp (pe_lc (g := TG_ X g is) (tt := TT_ X W0 t) (te := TX X W0 e) hc hN hi ok hg ht he hs) fun _ _ _ h => lc_go his h
/-- y = [..] -/
theorem ds_setLc {i : Nat} {y : Str} {py spos : Pos} (hc : X.calm = true) (hN : X.N.Nodup) (hy : X.N[i]? = some y) (hyl : X.env.scope.names.lookup y = some .local)
    (hsw : swapsWith (.ListComp elt [⟨tg, iter, ifs, 0⟩] scope pos) (some (.Name y py)) spos.line X.env = pure true) (hi : DI X W tg iter w) (ok : BlkOk X.N X.env.scope scope own) (his : ∀ i ∈ is, i ∈ own.map (·.2))
    (hg : ∀ (s : Shared) (H : Hp) (C : Addr) (cl : List (Str × Addr)) (fp : List Addr), DG (X.blk s H scope (compEnvC scope cl C X.env) fp) tg g is) (ht : ∀ (s : Shared) (H : Hp) (C : Addr) (cl : List (Str × Addr)) (fp : List Addr), DTs (X.blk s H scope (compEnvC scope cl C X.env) fp) ifs t)
    (he : ∀ (s : Shared) (H : Hp) (C : Addr) (cl : List (Str × Addr)) (fp : List Addr), DE (X.blk s H scope (compEnvC scope cl C X.env) fp) W0 elt e) (hs : ∀ x, foldedSetIterable iter X.env x = pure x := by intro _; rfl) :
    DS X W (.Assign [.Name y py] (.ListComp elt [⟨tg, iter, ifs, 0⟩] scope pos) spos) (sSet i (eComp w g t e (own.map (·.2)))) :=
  ps_imp (ps_setLc (g := TG_ X g is) (tt := TT_ X W0 t) (te := TX X W0 e) hc hN hy hyl hsw hi ok hg ht he hs) fun D σV H ⟨f, σ, S, r, hE, hS, hr, hf⟩ => by
    refine lc_go his ?_
    refine TX.stm hE hS hr hf fun v S1 u H1 h1 f1 s1 k1 e1 r1 => ?_
    cases h1
    exact ReS.now f1 s1 (e1.set i r1)
end

/-! ## while -/
def whGo (c : Tst) (b : Sm) : Nat → Sm
  | 0 => fun _ _ => none
  | n + 1 => fun σ S => Sm.bnd (c σ S) fun x S1 => if x = true then match b σ S1 with
    | some (.nx σ2 S2) => whGo c b n σ2 S2
    | some (.ct σ2 S2) => whGo c b n σ2 S2
    | some (.bk σ2 S2) => some (.nx σ2 S2)
    | some (.rt v S2) => some (.rt v S2)
    | some (.exc x S2) => some (.exc x S2)
    | none => none
    else some (.nx σ S1)
theorem ds_while {X : Cx} {W : WX} {pos : Pos} {c : Expr} {body : List Stmt} {tc : Tst} {m : Sm} (n : Nat) (hp : PassesOwn (model X.prog X.w) X.A X.env X.xe) (hc : DT X W c tc) (hb : DB X W body m) : DS X W (.While c body [] pos) (whGo tc m n) :=
  ps_imp (ps_while hp hc hb) fun D σV H ⟨f, σ, S, r, hE, hS, hr, hf⟩ => by
    refine ⟨fun n σV2 H2 => ∃ (ex : List Addr) (σ2 : Sg) (S2 : Sto), Kp f H H2 ∧ (∀ a ∈ ex, H a = none) ∧ EnvR X.K (f.add ex) H2 σV2 σ2 ∧ StoR X.K (f.add ex) S2 H2 ∧ whGo tc m n σ2 S2 = some r ∧ Fl X W (f.add ex) H2 D r,
      ⟨n, [], σ, S, Kp.refl _ _, (fun _ z => nomatch z), by rw [Ow.add_nil]; exact hE, by rw [Ow.add_nil]; exact hS, hr, by rw [Ow.add_nil]; exact hf⟩, ?_⟩
    rintro n σV2 H2 ⟨ex, σ2, S2, k2, n2, e2, s2, r2, f2⟩
    cases n with
    | zero => cases r2
    | succ n =>
    unfold whGo at r2
    refine TT_.stm e2 s2 r2 f2 fun x S3 H3 h3 f3 s3 k3 e3 => ?_
    have k23 : Kp f H H3 := Kp.more n2 k2 k3
    cases x with
    | false =>
      rw [if_neg Bool.false_ne_true] at h3 ⊢
      cases h3
      exact ReS.now f3 s3 e3
    | true =>
      rw [if_pos rfl] at h3 ⊢
      cases hm : m σ2 S3 with
      | none => rw [hm] at h3; cases h3
      | some q =>
      rw [hm] at h3
      refine ⟨fun σV' H' => ∃ (ex : List Addr) (σ2 : Sg) (S2 : Sto), Kp f H H' ∧ (∀ a ∈ ex, H a = none) ∧ EnvR X.K (f.add ex) H' σV' σ2 ∧ StoR X.K (f.add ex) S2 H' ∧ whGo tc m n σ2 S2 = some r ∧ Fl X W (f.add ex) H' D r, fun σV' H' h => ⟨n, Nat.lt_succ_self n, h⟩, f.add ex, σ2, S3, q, e3, s3, hm, ?_⟩
      have next : ∀ (σ' : Sg) (S' : Sto), whGo tc m n σ' S' = some r → ReS X (f.add ex) H3 σ' S' (fun σV' H' => ∃ (ex : List Addr) (σ2 : Sg) (S2 : Sto), Kp f H H' ∧ (∀ a ∈ ex, H a = none) ∧ EnvR X.K (f.add ex) H' σV' σ2 ∧ StoR X.K (f.add ex) S2 H' ∧ whGo tc m n σ2 S2 = some r ∧ Fl X W (f.add ex) H' D r) := by
        intro σ' S' hgo ex' σV' H' n' s' k' e'
        exact ⟨ex ++ ex', σ', S', Kp.more n2 k23 k', fresh_app (X := X) n2 s3 k23 s3.all n', by rw [← Ow.add_add]; exact e', by rw [← Ow.add_add]; exact s', hgo, by rw [← Ow.add_add]; exact f3.step n' s' k'⟩
      cases q with
      | nx σ' S' => exact next σ' S' h3
      | ct σ' S' => exact next σ' S' h3
      | bk σ' S' => cases h3; exact f3
      | rt v S' => cases h3; exact f3
      | exc x S' => cases h3; exact f3
end Z
set_option maxRecDepth 100000
namespace Z
open PySem PySem.Spec PyProof.Rows L2

theorem Gd.blk {X : Cx} {W : WX} {k : Nat} (g : Gd X W k) (s : Shared) (H : Hp) (scope : Scope) (ce : Env) (fp : List Addr) : Gd (X.blk s H scope ce fp) W0 k :=
  ⟨g.hr, g.gd, g.calm, g.nd, fun u s' ⟨a, B, sI, pins, σ, H, cls, d, e, I, nb, up, sky, na, os, ag, w⟩ => w.elim, PassesOwn.never⟩

/-! ## defs -/
inductive FR where
  | ok (v : SV) (S : Sto)
  | nw (o : Ob) (S : Sto)
  | exc (x : Exn) (S : Sto)
abbrev Fn := List SV → Sto → Option FR
def SpG (K : PySem.W.Frag) (mg : Str → Option Value) (g : Fn) : Sp := fun vs H Q E => ∃ (f : Ow) (S : Sto) (svs : List SV) (r : FR), StoR K f S H ∧ Paired (SvR K f H) vs svs ∧ g svs S = some r ∧
  match r with
  | .ok sv S' => ∀ (v : V) (H' : Hp), StoR K f S' H' → Kp f H H' → SvR K f H' v sv → Q v H'
  | .nw ob S' => ∀ (p : Addr) (H' : Hp), H p = none → StoR K (f.add [p]) (S' ++ [ob]) H' → Kp f H H' → Q (.ref p) H'
  | .exc x S' => ∀ (cls : Value) (d : Option Addr) (H' : Hp), StoR K f S' H' → Kp f H H' → ExR K f H' cls d x → E cls d H'
/-- the def x of the module does what g says, in k calls' room -/
structure FnG (P : Program) (w : World) (K : PySem.W.Frag) (mg : Str → Option Value) (base : Heap) (k : Nat) (x : Str) (g : Fn) : Prop where
  ex : ∃ f : Addr, mg x = some (.ref f) ∧ PySem.W.keepIn K (.ref f) = true ∧
    ∀ (A : Around) (outer : List Env) (s : Shared) (H : Hp) (us : List Value) (vs : List V) (Q : VK) (E : XK), Room k A → A.guards = some [] → Env0 P w K mg base A outer s H → Vals vs us → SpG K mg g vs H Q E →
      codeAny (model P w) A (.call (.ref f) ⟨us, []⟩) (CR (CX P w) outer P w H s Q E) s
theorem FnG.mono {P : Program} {w : World} {K : PySem.W.Frag} {mg : Str → Option Value} {base : Heap} {j k : Nat} {x : Str} {g : Fn} (F : FnG P w K mg base j x g) (h : j ≤ k) : FnG P w K mg base k x g :=
  let ⟨f, a, b, c⟩ := F.ex
  ⟨f, a, b, fun A outer s H us vs Q E hr => c A outer s H us vs Q E (hr.mono h)⟩
/-- less may be said -/
theorem FnG.less {P : Program} {w : World} {K : PySem.W.Frag} {mg : Str → Option Value} {base : Heap} {k : Nat} {x : Str} {g g' : Fn} (F : FnG P w K mg base k x g) (h : ∀ a S r, g' a S = some r → g a S = some r) : FnG P w K mg base k x g' :=
  let ⟨f, a, b, c⟩ := F.ex
  ⟨f, a, b, fun A outer s H us vs Q E hr hg e0 r ⟨fo, S, svs, q, s1, p, e, z⟩ => c A outer s H us vs Q E hr hg e0 r ⟨fo, S, svs, q, s1, p, h _ _ _ e, z⟩⟩

@[simp] def eCall (g : Fn) (as : Exs) (σ : Sg) (S : Sto) : Option (Res SV) := Res.bnd (as σ S) fun xs S1 => match g xs S1 with
  | some (.ok v S2) => some (.ok v S2)
  | some (.nw (.lst ds) S2) => some (.ok (.d (.list ds)) S2)
  | some (.exc x S2) => some (.exc x S2)
  | _ => none
@[simp] def nCall (g : Fn) (as : Exs) (σ : Sg) (S : Sto) : Option (Res Ob) := Res.bnd (as σ S) fun xs S1 => match g xs S1 with
  | some (.nw o S2) => some (.ok o S2)
  | some (.exc x S2) => some (.exc x S2)
  | _ => none
section
variable {X : Cx} {W : WX} {k : Nat} {x : Str} {g : Fn} {p0 pos : Pos} {a : Expr} {es : List Expr} {fs : Exs}
def tCallG (X : Cx) (W : WX) (sp : Sp) (t : TA) : TE := fun σ H Q => t σ H fun vs H1 => sp vs H1 Q (fun cls d H' => W cls d σ H')
theorem run_g {sp : Sp} {f : Addr} (G : Gd X W k)
    (run : ∀ (A : Around) (outer : List Env) (s : Shared) (H : Hp) (us : List Value) (vs : List V) (Q : VK) (E : XK), Room k A → A.guards = some [] → Env0 X.prog X.w X.K X.mg X.base A outer s H → Vals vs us → sp vs H Q E →
      codeAny (model X.prog X.w) A (.call (.ref f) ⟨us, []⟩) (CR (CX X.prog X.w) outer X.prog X.w H s Q E) s)
    {pins : List (Addr × Obj)} {σ : L2.St} {H : Hp} {s : Shared} {Q : VK} {us : List Value} {vs : List V} (I : Inv X pins σ H s) (r : Vals vs us) (h : sp vs H Q (fun cls d H' => W cls d σ H')) :
    wpAny (model X.prog X.w) X.A (call (.ref f) us) (EP X pins σ Q) X.xe s := by
  refine wpAny_call (codeAny_mono (run X.A X.stack s H us vs Q _ G.hr G.gd I.env0 r h) fun r s' hq => ?_)
  cases r with
  | error e => exact G.tk e s' (XE.of_call I (fun _ _ _ z => z) hq)
  | ok fl =>
    cases fl with
    | ret u => exact I.after hq
    | next => exact hq.elim
    | brk => exact hq.elim
    | cont => exact hq.elim
theorem pe_g {sp : Sp} {f : Addr} {t : TA} (G : Gd X W k)
    (run : ∀ (A : Around) (outer : List Env) (s : Shared) (H : Hp) (us : List Value) (vs : List V) (Q : VK) (E : XK), Room k A → A.guards = some [] → Env0 X.prog X.w X.K X.mg X.base A outer s H → Vals vs us → sp vs H Q E →
      codeAny (model X.prog X.w) A (.call (.ref f) ⟨us, []⟩) (CR (CX X.prog X.w) outer X.prog X.w H s Q E) s)
    (hg : Gl X x) (hm : X.mg x = some (.ref f)) (hk : PySem.W.keepIn X.K (.ref f) = true) (ha : PA X (a :: es) t) (hdb : (x == ("__debug__" : Str)) = false)
    (he : starEach (a :: es) X.env = (false, eval a X.env) :: starEach es X.env) (hpl : (backTo pos (starEach es X.env)).any (·.1) = false) : PE X (.Call (.Name x p0) (a :: es) [] pos) (tCallG X W sp t) := by
  refine ⟨fun pins s σ H Q I h => wpAny_Call_Name_kw (ld_glob I hg hm ?_ hdb)⟩
  exact PySem.W.callWith_K (h₀ := X.base) I.ok.mod.kin hk (thn (ha.run pos pins s σ H _ I h) fun us s1 ⟨vs, H1, I1, r, q⟩ => ⟨I1.kIn, run_g G run I1 r q⟩) he hpl
theorem pe_g0 {sp : Sp} {f : Addr} (G : Gd X W k)
    (run : ∀ (A : Around) (outer : List Env) (s : Shared) (H : Hp) (us : List Value) (vs : List V) (Q : VK) (E : XK), Room k A → A.guards = some [] → Env0 X.prog X.w X.K X.mg X.base A outer s H → Vals vs us → sp vs H Q E →
      codeAny (model X.prog X.w) A (.call (.ref f) ⟨us, []⟩) (CR (CX X.prog X.w) outer X.prog X.w H s Q E) s)
    (hg : Gl X x) (hm : X.mg x = some (.ref f)) (hk : PySem.W.keepIn X.K (.ref f) = true) (hdb : (x == ("__debug__" : Str)) = false) : PE X (.Call (.Name x p0) [] [] pos) (tCallG X W sp tNil) := by
  refine ⟨fun pins s σ H Q I h => wpAny_Call_Name_kw (ld_glob I hg hm ?_ hdb)⟩
  exact PySem.W.callWith_K0 I.kIn hk (run_g (us := []) G run I .nil h)
theorem call_go {σV : L2.St} {H : Hp} {Q : VK} (h : TX X W (eCall g fs) σV H Q) : tCallG X W (SpG X.K X.mg g) (TXs X W fs) σV H Q := by
  obtain ⟨f, σ, S, r, hE, hS, hr, hq⟩ := h
  refine TXs.first hE hS hr (exc_way hq) fun xs S1 vs H1 _ h1 s1 k1 e1 r1 => ?_
  cases hg : g xs S1 with
  | none => rw [hg] at h1; cases h1
  | some q =>
  rw [hg] at h1
  refine ⟨f, S1, xs, q, s1, r1, hg, ?_⟩
  cases q with
  | ok v S2 =>
    cases h1
    exact fun u H2 s2 k2 r2 => hq u H2 s2 (k1.trans k2) r2
  | nw o S2 =>
    cases o with
    | dct kvs => cases h1
    | tab t P => cases h1
    | lst ds =>
      cases h1
      intro p H2 np s2 k2
      have hp : f.nx p := s1.free np
      have cut := s2.cut
      have hl : f.o.length = S2.length := by
        have := s2.len
        simp [Ow.add] at this
        exact this
      rw [hl, List.take_append_of_le_length (Nat.le_refl _), List.take_length] at cut
      obtain ⟨vs2, e2, i2⟩ := s2.at_ S2.length (.lst ds) p (by simp) (by show (f.o ++ [p])[S2.length]? = some p; rw [← hl]; simp)
      exact hq _ H2 cut (k1.trans k2) (Is.lst ⟨e2, hp⟩ (i2.keep (Kq.refl _ _) Gr.sub))
  | exc y S2 =>
    cases h1
    exact fun cls d H2 s2 k2 r2 => hq cls d H2 s2 (k1.trans k2) r2
theorem ncall_go {σV : L2.St} {H : Hp} {Q : VK} (h : TN X W (nCall g fs) σV H Q) : tCallG X W (SpG X.K X.mg g) (TXs X W fs) σV H Q := by
  obtain ⟨f, σ, S, r, hE, hS, hr, hq⟩ := h
  refine TXs.first hE hS hr (fun x S' e => by subst e; exact hq) fun xs S1 vs H1 _ h1 s1 k1 e1 r1 => ?_
  cases hg : g xs S1 with
  | none => rw [hg] at h1; cases h1
  | some q =>
  rw [hg] at h1
  refine ⟨f, S1, xs, q, s1, r1, hg, ?_⟩
  cases q with
  | ok v S2 => cases h1
  | nw o S2 =>
    cases h1
    intro p H2 np s2 k2
    have nH : H p = none := by
      cases eH : H p with
      | none => rfl
      | some o =>
        have z := k1 p o (s1.free np).1 eH
        rw [np] at z; cases z
    exact hq p H2 nH s2 (k1.trans k2)
  | exc y S2 =>
    cases h1
    exact fun cls d H2 s2 k2 r2 => hq cls d H2 s2 (k1.trans k2) r2
theorem de_call (G : Gd X W k) (F : FnG X.prog X.w X.K X.mg X.base k x g) (ha : DA X W (a :: es) fs) (hg : Gl X x := by rfl) (hdb : (x == ("__debug__" : Str)) = false := by decide)
    (he : starEach (a :: es) X.env = (false, eval a X.env) :: starEach es X.env := by rfl) (hpl : (backTo pos (starEach es X.env)).any (·.1) = false := by rfl) : DE X W (.Call (.Name x p0) (a :: es) [] pos) (eCall g fs) := by
  obtain ⟨f, hm, hk, run⟩ := F.ex
  exact pe_imp (pe_g G run hg hm hk ha hdb he hpl) fun _ _ _ h => call_go h
theorem de_call0 (G : Gd X W k) (F : FnG X.prog X.w X.K X.mg X.base k x g) (hg : Gl X x := by rfl) (hdb : (x == ("__debug__" : Str)) = false := by decide) : DE X W (.Call (.Name x p0) [] [] pos) (eCall g esNil) := by
  obtain ⟨f, hm, hk, run⟩ := F.ex
  refine pe_imp (pe_g0 G run hg hm hk hdb) fun σV H Q h => ?_
  obtain ⟨f, σ, S, r, hE, hS, hr, hq⟩ := call_go (W := W) h
  cases hr
  exact hq [] H hS (Kp.refl _ _) .nil
theorem dn_call (G : Gd X W k) (F : FnG X.prog X.w X.K X.mg X.base k x g) (ha : DA X W (a :: es) fs) (hg : Gl X x := by rfl) (hdb : (x == ("__debug__" : Str)) = false := by decide)
    (he : starEach (a :: es) X.env = (false, eval a X.env) :: starEach es X.env := by rfl) (hpl : (backTo pos (starEach es X.env)).any (·.1) = false := by rfl) : DN X W (.Call (.Name x p0) (a :: es) [] pos) (nCall g fs) := by
  obtain ⟨f, hm, hk, run⟩ := F.ex
  exact pe_imp (pe_g G run hg hm hk ha hdb he hpl) fun _ _ _ h => ncall_go h
end

/-- a def by its body; n: how many names beside the parameters -/
@[simp] def fnRun (n : Nat) (m : Sm) (args : List SV) (S : Sto) : Option FR := match m (args.map some ++ List.replicate n none) S with
  | some (.nx _ S') => some (.ok (.d .none) (S'.take S.length))
  | some (.rt (.d x) S') => some (.ok (.d x) (S'.take S.length))
  | some (.rt (.r i) S') => if i < S.length then some (.ok (.r i) (S'.take S.length)) else (S'[i]?).map fun o => .nw o (S'.take S.length)
  | some (.exc x S') => some (.exc x (S'.take S.length))
  | _ => none
theorem pkeep {K : PySem.W.Frag} {f : Ow} {H H' : Hp} {vs : List V} {svs : List SV} (h : Paired (SvR K f H) vs svs) (k : Kp f H H') : Paired (SvR K f H') vs svs := Paired.mapP h fun _ _ r => r.kp k
theorem papp {α β : Type} {R : α → β → Prop} : ∀ {a b : List α} {c d : List β}, Paired R a c → Paired R b d → Paired R (a ++ b) (c ++ d)
  | _, _, _, _, .nil, s => s
  | _, _, _, _, .cons r t, s => .cons r (papp t s)
theorem start_env {K : PySem.W.Frag} {f : Ow} {H : Hp} {N : List Str} {n : Nat} {vs : List V} {svs : List SV} (h : Paired (SvR K f H) vs svs) (hn : N.length - vs.length = n) : EnvR K f H (L2.start N vs) (svs.map some ++ List.replicate n none) := by
  have hl := Paired.length h
  refine ⟨by simp [L2.start, hl, ← hn], fun i x e => ?_⟩
  by_cases hi : i < svs.length
  · rw [List.getElem?_append_left (by simpa using hi), List.getElem?_map, List.getElem?_eq_getElem hi] at e
    cases e
    have : ∀ {vs : List V} {svs : List SV} {i : Nat} (hi : i < svs.length), Paired (SvR K f H) vs svs → ∃ v, vs[i]? = some v ∧ SvR K f H v svs[i] := by
      intro vs svs
      induction svs generalizing vs with
      | nil => intro i hi; cases hi
      | cons y ys ih =>
        intro i hi p
        cases p with
        | cons p q =>
          cases i with
          | zero => exact ⟨_, rfl, p⟩
          | succ i =>
            obtain ⟨v, e1, r1⟩ := ih (i := i) (by simpa using hi) q
            exact ⟨v, by simpa using e1, r1⟩
    obtain ⟨v, e1, r1⟩ := this hi h
    refine ⟨v, ?_, r1⟩
    unfold L2.start
    rw [List.getElem?_append_left (by simpa [hl] using hi), List.getElem?_map, e1]
    rfl
  · rw [List.getElem?_append_right (by simpa using hi), List.getElem?_replicate] at e
    split at e <;> cases e
section
variable {P : Program} {w : World} {K : PySem.W.Frag} {mg : Str → Option Value} {base : Heap} {k n : Nat} {x : Str} {st : Stmt} {f : Addr} {fd : FuncData} {N ps : List Str} {m : Sm}
/-- the context of a def's body -/
abbrev Xo (P : Program) (w : World) (K : PySem.W.Frag) (mg : Str → Option Value) (base : Heap) (N : List Str) (qual : Str) (st : Stmt) (f : Addr) (cdv : Value) (A : Around) (outer : List Env) (s : Shared) (H : Hp) (E : XK) : Cx :=
  cxOf (CX P w) P w K mg base N qual (defScope st) f cdv A outer s H E
abbrev Wo (E : XK) : WX := fun cls d _ H => E cls d H
theorem body_end {X : Cx} {W : WX} {fo : Ow} {S : Sto} {svs : List SV} {H : Hp} {Q : VK} {E : XK} {r : FR} {q : Flow} (hW : ∀ cls d σ H, E cls d H → W cls d σ H) (hS : StoR X.K fo S H)
    (hr : (match some q with
      | some (.nx _ S') => some (FR.ok (.d .none) (S'.take S.length))
      | some (.rt (.d x) S') => some (.ok (.d x) (S'.take S.length))
      | some (.rt (.r i) S') => if i < S.length then some (.ok (.r i) (S'.take S.length)) else (S'[i]?).map fun o => .nw o (S'.take S.length)
      | some (.exc x S') => some (.exc x (S'.take S.length))
      | _ => none) = some r)
    (hq : match (generalizing := false) r with
      | .ok sv S' => ∀ (v : V) (H' : Hp), StoR X.K fo S' H' → Kp fo H H' → SvR X.K fo H' v sv → Q v H'
      | .nw ob S' => ∀ (p : Addr) (H' : Hp), H p = none → StoR X.K (fo.add [p]) (S' ++ [ob]) H' → Kp fo H H' → Q (.ref p) H'
      | .exc x S' => ∀ (cls : Value) (d : Option Addr) (H' : Hp), StoR X.K fo S' H' → Kp fo H H' → ExR X.K fo H' cls d x → E cls d H') :
    Fl X W fo H { nx := fun _ H' => Q .non H', rt := Q } q := by
  cases q with
  | nx σ' S' =>
    cases hr
    intro ex σV H' n1 s1 k1 _
    have c := s1.cut
    rw [hS.len] at c
    exact hq .non H' c k1 Is.non
  | rt v S' =>
    cases v with
    | d y =>
      cases hr
      intro ex u H' n1 s1 k1 r1
      have c := s1.cut
      rw [hS.len] at c
      exact hq u H' c k1 (Is.keep (Kq.refl _ _) Gr.sub r1)
    | s ns => cases hr
    | k a x c d => cases hr
    | t a1 a2 a3 a4 a5 => cases hr
    | r i =>
      intro ex u H' n1 s1 k1 r1
      obtain ⟨a, ea, rfl⟩ := r1
      have c := s1.cut
      rw [hS.len] at c
      dsimp only at hr
      split at hr
      · rename_i hi
        cases hr
        have ea : (fo.o ++ ex)[i]? = some a := ea
        rw [List.getElem?_append_left (by rw [hS.len]; exact hi)] at ea
        exact hq _ H' c k1 ⟨a, ea, rfl⟩
      · rename_i hi
        cases eo : S'[i]? with
        | none => rw [eo] at hr; cases hr
        | some o =>
        rw [eo] at hr
        cases hr
        have ea : (fo.o ++ ex)[i]? = some a := ea
        have q1 := s1.cut1 eo ea (by rw [hS.len]; omega)
        rw [hS.len] at q1
        refine hq a H' (n1 a ?_) q1 k1
        rw [List.getElem?_append_right (by rw [hS.len]; omega)] at ea
        exact List.mem_of_getElem? ea
  | bk σ' S' => cases hr
  | ct σ' S' => cases hr
  | exc y S' =>
    cases hr
    intro ex cls d σV H' n1 s1 k1 r1
    have c := s1.cut
    rw [hS.len] at c
    exact hW _ _ _ _ (hq cls d H' c k1 (r1.keep (Kq.refl _ _) Gr.sub))
theorem fn_def0 {qual : Str} (F : Fun K x qual st f fd) (hm : mg x = some (.ref f)) (sc : FnScope N ps (defScope st)) (hn : N.length - ps.length = n)
    (bd : ∀ (kV doc pm : Value) (an : Option Addr) (cdv ct : Value) (us : List Value), us.length = ps.length → bindArgs (PySem.W.fnOf x qual (defArgs st) (defBody st) (defScope st) .none kV doc pm an cdv ct) ⟨us, []⟩ = pure (ps.zip us))
    (hb : ∀ (cdv : Value), fd.code = cdv → ∀ (A : Around) (outer : List Env) (s : Shared) (H : Hp) (E : XK), Gd (Xo P w K mg base N qual st f cdv A outer s H E) (Wo E) k → DB (Xo P w K mg base N qual st f cdv A outer s H E) (Wo E) (defBody st) m) :
    FnG P w K mg base (k + 1) x (fun args S => if args.length = ps.length then fnRun n m args S else none) := by
  obtain ⟨oc, od, kV, doc, pm, an, cdv, ct, osl, rfl, lk, hcd⟩ := F.ex
  refine ⟨f, hm, F.kp, fun A outer s H us vs Q E hr hg e0 rv ⟨fo, S, svs, r, hS, hp, hgr, hq⟩ => ?_⟩
  have hgr : (if svs.length = ps.length then fnRun n m svs S else none) = some r := hgr
  split at hgr
  · rename_i hl
    have hl2 : vs.length = ps.length := (Paired.length hp).trans hl
    have hl3 : us.length = ps.length := rv.length.symm.trans hl2
    refine StX.run_bnd (CX := CX P w) (G := fun vs' H2 => vs' = vs ∧ H2 = H) lk hcd sc hr e0 (fun A' Ex Q' h => ?_) fun s2 H2 vs' ⟨e1, e2⟩ hr2 => ?_
    · rw [bd kV doc pm an cdv ct us hl3]
      exact wpAny_pure (h s H vs us e0 Un.refl rfl (fun _ _ z => z) rv hl2 ⟨rfl, rfl⟩)
    · subst e1 e2
      have G : Gd (Xo P w K mg base N qual st f cdv A outer s2 H2 E) (Wo E) k := ⟨hr2, hg, rfl, sc.nd, takes_of rfl rfl rfl rfl, passes_of rfl⟩
      refine ⟨_, hb cdv rfl A outer s2 H2 E G, ?_⟩
      unfold fnRun at hgr
      cases hmm : m (svs.map some ++ List.replicate n none) S with
      | none => rw [hmm] at hgr; cases hgr
      | some q =>
        rw [hmm] at hgr
        exact ⟨fo, _, S, q, start_env hp (by rw [hl2]; exact hn), hS, hmm, body_end (X := Xo P w K mg base N qual st f cdv A outer s2 H2 E) (svs := svs) (fun _ _ _ _ z => z) hS hgr hq⟩
  · cases hgr
theorem fn_def {qual : Str} (F : Fun K x qual st f fd) (hm : mg x = some (.ref f)) (sc : FnScope N ps (defScope st)) (hn : N.length - ps.length = n)
    (bd : ∀ (kV doc pm : Value) (an : Option Addr) (cdv ct : Value) (us : List Value), us.length = ps.length → bindArgs (PySem.W.fnOf x qual (defArgs st) (defBody st) (defScope st) .none kV doc pm an cdv ct) ⟨us, []⟩ = pure (ps.zip us))
    (hb : ∀ (cdv : Value) (A : Around) (outer : List Env) (s : Shared) (H : Hp) (E : XK), Gd (Xo P w K mg base N qual st f cdv A outer s H E) (Wo E) k → DB (Xo P w K mg base N qual st f cdv A outer s H E) (Wo E) (defBody st) m) :
    FnG P w K mg base (k + 1) x (fun args S => if args.length = ps.length then fnRun n m args S else none) := fn_def0 F hm sc hn bd fun cdv _ => hb cdv
/-- a def whose code object is told -/
theorem fn_defC {qual : Str} {cd : Value} (F : Fun K x qual st f fd) (hm : mg x = some (.ref f)) (hc : fd.code = cd) (sc : FnScope N ps (defScope st)) (hn : N.length - ps.length = n)
    (bd : ∀ (kV doc pm : Value) (an : Option Addr) (cdv ct : Value) (us : List Value), us.length = ps.length → bindArgs (PySem.W.fnOf x qual (defArgs st) (defBody st) (defScope st) .none kV doc pm an cdv ct) ⟨us, []⟩ = pure (ps.zip us))
    (hb : ∀ (A : Around) (outer : List Env) (s : Shared) (H : Hp) (E : XK), Gd (Xo P w K mg base N qual st f cd A outer s H E) (Wo E) k → DB (Xo P w K mg base N qual st f cd A outer s H E) (Wo E) (defBody st) m) :
    FnG P w K mg base (k + 1) x (fun args S => if args.length = ps.length then fnRun n m args S else none) := fn_def0 F hm sc hn bd fun cdv e => by
  cases hc.symm.trans e
  exact hb
/-- the def that is never called -/
theorem fn_none {qual : Str} {j : Nat} (F : Fun K x qual st f fd) (hm : mg x = some (.ref f)) : FnG P w K mg base j x (fun _ _ => none) :=
  ⟨f, hm, F.kp, fun A outer s H us vs Q E hr hg e0 rv ⟨fo, S, svs, r, hS, hp, hgr, hq⟩ => nomatch hgr⟩
/-- def x(a, .., *v) -/
theorem fn_star {qual pv : Str} (F : Fun K x qual st f fd) (hm : mg x = some (.ref f)) (sc : FnScope N (ps ++ [pv]) (defScope st)) (hn : N.length - (ps.length + 1) = n)
    (bd : ∀ (kV doc pm : Value) (an : Option Addr) (cdv ct : Value) (us rest : List Value), us.length = ps.length → bindArgs (PySem.W.fnOf x qual (defArgs st) (defBody st) (defScope st) .none kV doc pm an cdv ct) ⟨us ++ rest, []⟩ = (newTuple rest >>= fun t => pure (ps.zip us ++ [(pv, t)])))
    (hb : ∀ (cdv : Value) (A : Around) (outer : List Env) (s : Shared) (H : Hp) (E : XK), Gd (Xo P w K mg base N qual st f cdv A outer s H E) (Wo E) k → DB (Xo P w K mg base N qual st f cdv A outer s H E) (Wo E) (defBody st) m) :
    FnG P w K mg base (k + 1) x (fun args S => if ps.length ≤ args.length then (dats (args.drop ps.length)).bind fun ds => if ds.length ≤ sizeLine then fnRun n m (args.take ps.length ++ [.d (.tuple ds)]) S else none else none) := by
  obtain ⟨oc, od, kV, doc, pm, an, cdv, ct, osl, rfl, lk, hcd⟩ := F.ex
  refine ⟨f, hm, F.kp, fun A outer s H us vs Q E hr hg e0 rv ⟨fo, S, svs, r, hS, hp, hgr, hq⟩ => ?_⟩
  have hgr : (if ps.length ≤ svs.length then (dats (svs.drop ps.length)).bind fun ds => if ds.length ≤ sizeLine then fnRun n m (svs.take ps.length ++ [.d (.tuple ds)]) S else none else none) = some r := hgr
  split at hgr
  · rename_i hl
    cases ed : dats (svs.drop ps.length) with
    | none => rw [ed] at hgr; cases hgr
    | some ds =>
    rw [ed] at hgr
    dsimp only [Option.bind_some] at hgr
    split at hgr
    · rename_i hz
      have hpd : ∀ {vs : List V} {svs : List SV} (i : Nat), Paired (SvR K fo H) vs svs → Paired (SvR K fo H) (vs.drop i) (svs.drop i) ∧ Paired (SvR K fo H) (vs.take i) (svs.take i) := by
        intro vs svs i p
        induction p generalizing i with
        | nil => rw [List.drop_nil, List.take_nil, List.drop_nil, List.take_nil]; exact ⟨.nil, .nil⟩
        | cons a b ih =>
          cases i with
          | zero => exact ⟨.cons a b, .nil⟩
          | succ i => exact ⟨(ih i).1, .cons a (ih i).2⟩
      obtain ⟨hp1, hp2⟩ := hpd ps.length hp
      have hrest := dats_is ed hp1
      have hvl : vs.length = svs.length := Paired.length hp
      have hul : us.length = svs.length := rv.length.symm.trans hvl
      have rv1 : Vals (vs.take ps.length) (us.take ps.length) := rv.take _
      have rv2 : Vals (vs.drop ps.length) (us.drop ps.length) := rv.drop _
      have hul1 : (us.take ps.length).length = ps.length := by rw [List.length_take]; omega
      have hvl1 : (vs.take ps.length).length = ps.length := by rw [List.length_take]; omega
      have hz2 : (us.drop ps.length).length ≤ sizeLine := by rw [← rv2.length, hrest.len]; exact hz
      have hfree : H s.heap.objs.size = none := e0.hok.fresh (Nat.le_refl _)
      refine StX.run_bnd (CX := CX P w) (G := fun vs' H2 => ∃ p, H p = none ∧ vs' = vs.take ps.length ++ [V.ref p] ∧ H2 = upd H p (.tup (vs.drop ps.length))) lk hcd sc hr e0 (fun A' Ex Q' h => ?_) fun s2 H2 vs' ⟨p, np, e1, e2⟩ hr2 => ?_
      · rw [← List.take_append_drop ps.length us, bd kV doc pm an cdv ct _ _ hul1]
        refine wpAny_bind (wpAny_newTuple (wpAny_pure ?_) hz2)
        have new : ObjOk P w (upd H s.heap.objs.size (.tup (vs.drop ps.length))) (s.heap.push ({ cls := .type "tuple", data := .seq (us.drop ps.length).toArray } : Obj)) s.heap.objs.size (.tup (vs.drop ps.length)) :=
          ⟨by rw [rv2.length]; exact hz2, _, rv2, ⟨_, Heap.get?_push_size _ rfl, rfl, _, rfl⟩⟩
        have un := StX.un_laid (fs := frs outer) (s := s) (o := ({ cls := .type "tuple", data := .seq (us.drop ps.length).toArray } : Obj)) (u := .tup (vs.drop ps.length)) hfree
        have q := h _ _ (vs.take ps.length ++ [V.ref s.heap.objs.size]) (us.take ps.length ++ [Value.ref s.heap.objs.size]) (StX.env0_laid e0 new) un rfl (fun e s' => StX.cxUp outer s H _ _ E e s' un (fun b o q => Heap.get?_push_of_some _ q) rfl)
          (rv1.append (.cons rfl .nil)) (by simp; omega) ⟨_, hfree, rfl, rfl⟩
        rw [List.zip_append hul1.symm] at q
        exact q
      · subst e1 e2
        have G : Gd (Xo P w K mg base N qual st f cdv A outer s2 (upd H p (.tup (vs.drop ps.length))) E) (Wo E) k := ⟨hr2, hg, rfl, sc.nd, takes_of rfl rfl rfl rfl, passes_of rfl⟩
        refine ⟨_, hb cdv A outer s2 _ E G, ?_⟩
        unfold fnRun at hgr
        cases hmm : m ((svs.take ps.length ++ [SV.d (.tuple ds)]).map some ++ List.replicate n none) S with
        | none => rw [hmm] at hgr; cases hgr
        | some q =>
          rw [hmm] at hgr
          have hS2 := hS.laid (o := .tup (vs.drop ps.length)) np
          have kp : Kp fo H (upd H p (.tup (vs.drop ps.length))) := Kp.new np
          have pr : Paired (SvR K fo (upd H p (.tup (vs.drop ps.length)))) (vs.take ps.length ++ [V.ref p]) (svs.take ps.length ++ [SV.d (.tuple ds)]) :=
            papp (pkeep hp2 kp) (.cons (Is.tup (.inl ⟨.inl upd_same, hS.free np⟩) (hrest.keep kp.q (Gr.refl _ _))) .nil)
          refine ⟨fo, _, S, q, start_env pr (by simp; omega), hS2, hmm, ?_⟩
          refine body_end (X := Xo P w K mg base N qual st f cdv A outer s2 (upd H p (.tup (vs.drop ps.length))) E) (svs := svs) (r := r) (Q := Q) (fun _ _ _ _ z => z) hS2 hgr ?_
          cases r with
          | ok sv S' => exact fun v H' s' k' r' => hq v H' s' (kp.trans k') r'
          | nw ob S' =>
            intro p' H' np' s' k'
            refine hq p' H' ?_ s' (kp.trans k')
            cases eH : H p' with
            | none => rfl
            | some o =>
              have z := kp p' o (hS2.free np').1 eH
              rw [np'] at z; cases z
          | exc y S' => exact fun cls d H' s' k' r' => hq cls d H' s' (kp.trans k') r'
    · cases hgr
  · cases hgr
end
end Z
set_option maxRecDepth 100000
set_option maxHeartbeats 1000000
namespace Z
open PySem PySem.Spec PyProof.Rows L2

/-! ## data as it is read, dicts too -/
section
variable {X : Cx} {pins : List (Addr × Obj)} {σ : L2.St} {H : Hp} {s : Shared} {f : Ow}
theorem key_reads {P : Program} {w : World} {h : Heap} {k : Key} {v : Value} (e : (mixKind P w).is k v = true) : ∃ as, Reads h v (kd k) as ∧ sysModules ∉ as := by
  rcases keyIs_shape e with ⟨i, t, rfl, rfl⟩ | ⟨x, t, rfl, rfl⟩
  · exact ⟨_, Reads.int i t, fun z => nomatch z⟩
  · exact ⟨_, Reads.str x t, fun z => nomatch z⟩
mutual
theorem Is.reads (I : Inv X pins σ H s) : ∀ (d : PyData) (v : V) (u : Value), Is X.K f H v d → RelV v u → ∃ as, Reads s.heap u d as ∧ sysModules ∉ as
  | .none, _, _, h, r => by
    cases h
    cases r
    exact ⟨_, Reads.none, fun z => nomatch z⟩
  | .bool b, _, _, h, r => by
    cases h
    cases r
    exact ⟨_, Reads.bool b, fun z => nomatch z⟩
  | .int i, _, _, h, r => by
    cases h
    obtain ⟨t, rfl⟩ := r
    exact ⟨_, Reads.int i t, fun z => nomatch z⟩
  | .str x, _, _, h, r => by
    cases h
    obtain ⟨t, rfl⟩ := r
    exact ⟨_, Reads.str x t, fun z => nomatch z⟩
  | .list ds, _, _, h, r => by
    cases h with
    | lst hs ha =>
      cases r
      obtain ⟨its, rv, ⟨o, n, ho, hc, _, hd⟩, _⟩ := I.list hs.sq
      obtain ⟨as, hr, hn⟩ := Is.readsAll I ds _ its ha rv
      exact ⟨_, Reads.list ho hc hd hr, fun m => (List.mem_cons.mp m).elim (fun e => hs.2.2.2 e.symm) hn⟩
  | .tuple ds, _, _, h, r => by
    cases h with
    | tup hs ha =>
      cases r
      obtain ⟨its, rv, ⟨o, ho, hc, n, hd⟩, _⟩ := I.tuple hs.sq
      obtain ⟨as, hr, hn⟩ := Is.readsAll I ds _ its ha rv
      exact ⟨_, Reads.tuple ho hc hd hr, hn⟩
  | .dict ds, _, _, h, r => by
    cases h with
    | dic hr hn hk =>
      cases r
      obtain ⟨_, hsys, vs, kv, o, es, ep, ho, hx, hd, _, hp, _⟩ := dk_rd I.hok hr
      obtain ⟨as, bs, r1, r2, n1, n2⟩ := Is.readsKv I ds _ vs es.toList hk kv hp
      refine ⟨_, Reads.dict ho hx.1 hd r1 r2, fun m => ?_⟩
      rcases List.mem_append.mp m with m | m
      · rcases List.mem_cons.mp m with m | m
        · rw [m] at hsys
          simp at hsys
        · exact n1 m
      · exact n2 m
theorem Is.readsAll (I : Inv X pins σ H s) : ∀ (ds : List PyData) (vs : List V) (us : List Value), IsAll X.K f H vs ds → Vals vs us → ∃ as, ReadsAll s.heap us ds as ∧ sysModules ∉ as
  | [], _, _, h, r => by
    cases h
    cases r
    exact ⟨_, ReadsAll.nil, fun z => nomatch z⟩
  | d :: ds, _, _, h, r => by
    cases h with
    | cons h1 h2 =>
      cases r with
      | cons r1 r2 =>
        obtain ⟨as, q1, n1⟩ := Is.reads I d _ _ h1 r1
        obtain ⟨bs, q2, n2⟩ := Is.readsAll I ds _ _ h2 r2
        exact ⟨_, ReadsAll.cons q1 q2, fun m => (List.mem_append.mp m).elim n1 n2⟩
theorem Is.readsKv (I : Inv X pins σ H s) : ∀ (ds : List (PyData × PyData)) (kvs : List (Key × V)) (vs : List (Key × Value)) (es : List DictEntry), IsKv X.K f H kvs ds → KV kvs vs → Pairs (mixKind X.prog X.w) es vs →
    ∃ as bs, ReadsAll s.heap (es.map (·.key)) (ds.map (·.1)) as ∧ ReadsAll s.heap (es.map (·.val)) (ds.map (·.2)) bs ∧ sysModules ∉ as ∧ sysModules ∉ bs
  | [], _, _, _, h, r, p => by
    cases h
    cases r
    cases p
    exact ⟨_, _, ReadsAll.nil, ReadsAll.nil, (fun z => nomatch z), fun z => nomatch z⟩
  | (k, d) :: ds, _, _, _, h, r, p => by
    cases h with
    | cons h1 h2 =>
      cases r with
      | cons r1 r2 =>
        cases p with
        | cons p1 p2 p3 =>
          obtain ⟨e1, e2⟩ := r1
          obtain ⟨a1, q1, n1⟩ := key_reads (h := s.heap) p1
          rw [← e1] at q1
          rw [← p2] at e2
          obtain ⟨a2, q2, n2⟩ := Is.reads I d _ _ h1 e2
          obtain ⟨as, bs, q3, q4, n3, n4⟩ := Is.readsKv I ds _ _ _ h2 r2 p3
          exact ⟨_, _, ReadsAll.cons q1 q3, ReadsAll.cons q2 q4, (fun m => (List.mem_append.mp m).elim n1 n3), fun m => (List.mem_append.mp m).elim n2 n4⟩
end
end
/-- a value reads as data -/
def Rs (X : Cx) (H : Hp) (v : V) (d : PyData) : Prop := ∀ (pins : List (Addr × Obj)) (σ : L2.St) (s : Shared) (u : Value), Inv X pins σ H s → RelV v u → ∃ as, Reads s.heap u d as ∧ (d.hasDict = true → sysModules ∉ as)
/-- == that is told: no dict within; or against an empty list, an empty tuple -/
def empD : PyData → PyData → Bool
  | .tuple _, .tuple [] => true
  | .list _, .list [] => true
  | _, _ => false
def okE (d e : PyData) : Prop := (SeqAt.shaped d = true ∧ SeqAt.shaped e = true) ∨ empD d e = true
def rEqR (X : Cx) : R2 := fun x y H Q => ∃ d e, Rs X H x d ∧ Rs X H y e ∧ okE d e ∧ Q (.bl (PyData.eqv d e)) H
def rNeR (X : Cx) : R2 := fun x y H Q => ∃ d e, Rs X H x d ∧ Rs X H y e ∧ okE d e ∧ Q (.bl (!PyData.eqv d e)) H
theorem eqv_emp (ds : List PyData) : PyData.eqvAll ds [] = ds.isEmpty := by
  cases ds <;> simp [PyData.eqvAll]
section
variable {X : Cx}
theorem op_eqR (hu : X.A.units + 64 < cLine) : OpR X (compareOp .Eq) (rEqR X) := by
  intro pins s σ H x y v u Q I rx ry ⟨d, e, h1, h2, ok, q⟩
  obtain ⟨as, r1, -⟩ := h1 pins σ s _ I rx
  obtain ⟨bs, r2, -⟩ := h2 pins σ s _ I ry
  have fin : EP X pins σ Q (.bool (PyData.eqv d e)) s := ⟨.bl _, H, I, rfl, q⟩
  rcases ok with ⟨sd, se⟩ | ok
  · exact SeqAt.compareEq_shaped r1 r2 sd se hu fin
  · unfold empD at ok
    split at ok
    · rename_i ds
      cases r1 with
      | @tuple a o vs n xs as a1 a2 a3 a4 =>
      cases r2 with
      | @tuple a' o' vs' n' xs' as' b1 b2 b3 b4 =>
      have hv : vs' = #[] := by
        have : vs'.toList = [] := by cases h : vs'.toList with
          | nil => rfl
          | cons c l => rw [h] at b4; cases b4
        simpa using this
      subst hv
      have q2 := SeqAt.RcAt.tuples (A := X.A) (s := s) (e := fun _ => true) (l := a) (b := a') (items := vs) (items2 := #[]) ⟨o, a1, a2, n, a3⟩ ⟨o', b1, b2, n', b3⟩ (by omega) (fun j _ hj => absurd hj (by simp))
      refine q2 X.prog X.w _ _ ?_
      have ev : PyData.eqv (.tuple ds) (.tuple []) = (vs.size == 0) := by
        simp only [PyData.eqv, eqv_emp]
        cases hl : vs.toList with
        | nil => rw [hl] at a4; cases a4; have : vs = #[] := by simpa using hl
                 subst this; rfl
        | cons c l =>
          have hz : vs.size ≠ 0 := by
            rw [← Array.length_toList, hl]; simp
          rw [hl] at a4
          cases a4
          simp [hz]
      rw [ev] at fin
      simpa using fin
    · rename_i ds
      cases r1 with
      | @list a o vs n xs as a1 a2 a3 a4 =>
      cases r2 with
      | @list a' o' vs' n' xs' as' b1 b2 b3 b4 =>
      have hv : vs' = #[] := by
        have : vs'.toList = [] := by cases h : vs'.toList with
          | nil => rfl
          | cons c l => rw [h] at b4; cases b4
        simpa using this
      subst hv
      cases hl : vs.toList with
      | nil =>
        have : vs = #[] := by simpa using hl
        subst this
        cases a4
        have q2 := SeqAt.RcAt.lists (A := X.A) (s := s) (e := fun _ => true) (l := a) (b := a') (items := #[]) (items2 := #[]) ⟨o, a1, a2, n, a3⟩ ⟨o', b1, b2, n', b3⟩ rfl (by omega) (fun j _ hj => absurd hj (by simp))
        refine q2 X.prog X.w _ _ ?_
        have ev : PyData.eqv (.list []) (.list []) = true := by simp [PyData.eqv, PyData.eqvAll]
        rw [ev] at fin
        simpa using fin
      | cons c l =>
        have hz : (vs.size != (#[] : Array Value).size) = true := by
          have : vs.size ≠ 0 := by rw [← Array.length_toList, hl]; simp
          simpa using this
        have q2 := SeqAt.RcAt.lists_lengths (A := X.A) (s := s) (l := a) (b := a') (items := vs) (items2 := #[]) ⟨o, a1, a2, n, a3⟩ ⟨o', b1, b2, n', b3⟩ hz (by omega)
        refine q2 X.prog X.w _ _ ?_
        rw [hl] at a4
        cases a4
        have ev : ∀ (z : PyData) (zs : List PyData), PyData.eqv (.list (z :: zs)) (.list []) = false := fun z zs => by simp [PyData.eqv, PyData.eqvAll]
        rw [ev] at fin
        exact fin
    · cases ok
theorem op_neR (hu : X.A.units + 64 < cLine) : OpR X (compareOp .NotEq) (rNeR X) := by
  intro pins s σ H x y v u Q I rx ry ⟨d, e, h1, h2, ok, q⟩
  obtain ⟨as, r1, -⟩ := h1 pins σ s _ I rx
  obtain ⟨bs, r2, -⟩ := h2 pins σ s _ I ry
  have fin : EP X pins σ Q (.bool (!PyData.eqv d e)) s := ⟨.bl _, H, I, rfl, q⟩
  rcases ok with ⟨sd, se⟩ | ok
  · exact SeqAt.compareNe_shaped r1 r2 sd se hu fin
  · unfold empD at ok
    split at ok
    · rename_i ds
      cases r1 with
      | @tuple a o vs n xs as a1 a2 a3 a4 =>
      cases r2 with
      | @tuple a' o' vs' n' xs' as' b1 b2 b3 b4 =>
      have hv : vs' = #[] := by
        have : vs'.toList = [] := by cases h : vs'.toList with
          | nil => rfl
          | cons c l => rw [h] at b4; cases b4
        simpa using this
      subst hv
      have q2 := SeqAt.RcNeAt.tuples (A := X.A) (s := s) (e := fun _ => true) (l := a) (b := a') (items := vs) (items2 := #[]) ⟨o, a1, a2, n, a3⟩ ⟨o', b1, b2, n', b3⟩ (by omega) (fun j _ hj => absurd hj (by simp))
      refine q2 X.prog X.w _ _ ?_
      have ev : PyData.eqv (.tuple ds) (.tuple []) = (vs.size == 0) := by
        simp only [PyData.eqv, eqv_emp]
        cases hl : vs.toList with
        | nil => rw [hl] at a4; cases a4; have : vs = #[] := by simpa using hl
                 subst this; rfl
        | cons c l =>
          have hz : vs.size ≠ 0 := by
            rw [← Array.length_toList, hl]; simp
          rw [hl] at a4
          cases a4
          simp [hz]
      rw [ev] at fin
      simpa using fin
    · rename_i ds
      cases r1 with
      | @list a o vs n xs as a1 a2 a3 a4 =>
      cases r2 with
      | @list a' o' vs' n' xs' as' b1 b2 b3 b4 =>
      have hv : vs' = #[] := by
        have : vs'.toList = [] := by cases h : vs'.toList with
          | nil => rfl
          | cons c l => rw [h] at b4; cases b4
        simpa using this
      subst hv
      cases hl : vs.toList with
      | nil =>
        have : vs = #[] := by simpa using hl
        subst this
        cases a4
        have q2 := SeqAt.RcNeAt.lists (A := X.A) (s := s) (e := fun _ => true) (l := a) (b := a') (items := #[]) (items2 := #[]) ⟨o, a1, a2, n, a3⟩ ⟨o', b1, b2, n', b3⟩ rfl (by omega) (fun j _ hj => absurd hj (by simp))
        refine q2 X.prog X.w _ _ ?_
        have ev : PyData.eqv (.list []) (.list []) = true := by simp [PyData.eqv, PyData.eqvAll]
        rw [ev] at fin
        simpa using fin
      | cons c l =>
        have hz : (vs.size != (#[] : Array Value).size) = true := by
          have : vs.size ≠ 0 := by rw [← Array.length_toList, hl]; simp
          simpa using this
        have q2 := SeqAt.RcNeAt.lists_lengths (A := X.A) (s := s) (l := a) (b := a') (items := vs) (items2 := #[]) ⟨o, a1, a2, n, a3⟩ ⟨o', b1, b2, n', b3⟩ hz (by omega)
        refine q2 X.prog X.w _ _ ?_
        rw [hl] at a4
        cases a4
        have ev : ∀ (z : PyData) (zs : List PyData), PyData.eqv (.list (z :: zs)) (.list []) = false := fun z zs => by simp [PyData.eqv, PyData.eqvAll]
        rw [ev] at fin
        exact fin
    · cases ok
end
end Z
set_option maxRecDepth 100000
namespace Z
open PySem PySem.Spec PyProof.Rows L2

/-! ## operators on ints -/
@[simp] def iop (g : Int → Int → Option Int) : SV → SV → Sto → Option SV
  | .d (.int i), .d (.int j), _ => (g i j).map fun k => .d (.int k)
  | _, _, _ => none
@[simp] def irel (g : Int → Int → Bool) : SV → SV → Sto → Option SV
  | .d (.int i), .d (.int j), _ => some (.d (.bool (g i j)))
  | _, _, _ => none
section
variable {X : Cx}
theorem opk_int {C : Int → Int → Prop} {h : Int → Int → Int} {g : Int → Int → Option Int} (hg : ∀ i j k, g i j = some k → C i j ∧ k = h i j) : OpK X (rI C fun i j => .int (h i j)) (iop g) := by
  intro f S H vx vy x y z Q hS rx ry hp hq
  unfold iop at hp
  split at hp
  · rename_i i j
    cases e : g i j with
    | none => rw [e] at hp; cases hp
    | some k =>
      rw [e] at hp
      cases hp
      cases rx
      cases ry
      obtain ⟨hc, rfl⟩ := hg i j k e
      exact ⟨i, j, rfl, rfl, hc, hq _ H hS (Kp.refl _ _) (Is.int _)⟩
  · cases hp
theorem opk_int0 {h : Int → Int → Int} : OpK X (rI0 fun i j => .int (h i j)) (iop fun i j => some (h i j)) := by
  intro f S H vx vy x y z Q hS rx ry hp hq
  unfold iop at hp
  split at hp
  · cases hp
    cases rx
    cases ry
    exact ⟨_, _, rfl, rfl, hq _ H hS (Kp.refl _ _) (Is.int _)⟩
  · cases hp
theorem opk_rel {h : Int → Int → Bool} : OpK X (rI0 fun i j => .bl (h i j)) (irel h) := by
  intro f S H vx vy x y z Q hS rx ry hp hq
  unfold irel at hp
  split at hp
  · cases hp
    cases rx
    cases ry
    exact ⟨_, _, rfl, rfl, hq _ H hS (Kp.refl _ _) (Is.bl _)⟩
  · cases hp
end
abbrev pAdd := iop fun i j => some (i + j)
abbrev pSub := iop fun i j => some (i - j)
/-- one factor is short -/
def short (i : Int) : Prop := -18446744073709551616 < i ∧ i < 18446744073709551616
noncomputable instance (i : Int) : Decidable (short i) := Classical.propDecidable _
def lt64 (i : Int) : Prop := i < 18446744073709551616
noncomputable instance (i : Int) : Decidable (lt64 i) := Classical.propDecidable _
@[simp] theorem lt64_iff (i : Int) : lt64 i ↔ i < 18446744073709551616 := Iff.rfl
def le1M (i : Int) : Prop := i ≤ 1000000
noncomputable instance (i : Int) : Decidable (le1M i) := Classical.propDecidable _
@[simp] theorem le1M_iff (i : Int) : le1M i ↔ i ≤ 1000000 := Iff.rfl
noncomputable abbrev pMul := iop fun i j => if short i ∨ short j then some (i * j) else none
noncomputable abbrev pDiv := iop fun i j => if 0 < j ∧ lt64 j then some (i / j) else none
abbrev pMod := iop fun i j => if 0 < j then some (i % j) else none
def pPow : SV → SV → Sto → Option SV := iop fun i j => if 0 ≤ j ∧ j ≤ 1000 ∧ -(10 ^ 60) ≤ i ∧ i ≤ 10 ^ 60 then some (i ^ j.toNat) else none
noncomputable abbrev pShl := iop fun i j => if 0 ≤ j ∧ le1M j ∧ short i then some (i * 2 ^ j.toNat) else none
abbrev pShr := iop fun i j => if 0 ≤ j then some (i / 2 ^ j.toNat) else none
abbrev pAnd := iop fun i j => some (Builtin.bitAnd i j)
abbrev pLt := irel fun i j => decide (i < j)
abbrev pLe := irel fun i j => decide (i ≤ j)
abbrev pGt := irel fun i j => decide (j < i)
abbrev pGe := irel fun i j => decide (j ≤ i)
section
variable {X : Cx} {W : WX} {a b c : Expr} {ea eb ec : Ex} {pos : Pos}
theorem de_add (ha : DE X W a ea) (hb : DE X W b eb) : DE X W (.BinOp a .Add b pos) (eBin pAdd ea eb) := de_bin op_add opk_int0 ha hb
theorem de_sub (ha : DE X W a ea) (hb : DE X W b eb) : DE X W (.BinOp a .Sub b pos) (eBin pSub ea eb) := de_bin op_sub opk_int0 ha hb
theorem short_pow {i : Int} (h : short i) : -(2 ^ 64) < i ∧ i < 2 ^ 64 := by
  have e : (2 : Int) ^ 64 = 18446744073709551616 := by decide
  rw [e]
  exact h
theorem de_mul (ha : DE X W a ea) (hb : DE X W b eb) : DE X W (.BinOp a .Mult b pos) (eBin pMul ea eb) := de_bin op_mul (opk_int fun i j k e => by
  split at e
  · rename_i h
    cases e
    exact ⟨h.imp short_pow short_pow, rfl⟩
  · cases e) ha hb
theorem de_div (ha : DE X W a ea) (hb : DE X W b eb) : DE X W (.BinOp a .FloorDiv b pos) (eBin pDiv ea eb) := de_bin op_fdivW (opk_int fun i j k e => by
  split at e
  · rename_i h
    cases e
    exact ⟨wide_div (b := 64) h.1 (by have := h.2; unfold lt64 at this; have e : (2 : Nat) ^ 64 = 18446744073709551616 := by decide
                                      rw [e]; omega) (by decide) (by decide), rfl⟩
  · cases e) ha hb
theorem de_mod (ha : DE X W a ea) (hb : DE X W b eb) : DE X W (.BinOp a .Mod b pos) (eBin pMod ea eb) := de_bin op_mod (opk_int fun i j k e => by
  split at e
  · rename_i h
    cases e
    exact ⟨h, rfl⟩
  · cases e) ha hb
theorem bits_of {i : Int} {n : Nat} (h : i.natAbs < 2 ^ n) : Builtin.Int.intBits i ≤ n := by
  unfold Builtin.Int.intBits
  first
    | (split
       · exact Nat.zero_le _
       · rename_i h0
         have h0' : i.natAbs ≠ 0 := by simpa using h0
         have := (Nat.log2_lt h0').mpr h
         omega)
    | (cases n with
       | zero => simp at h; subst h; decide
       | succ n =>
         by_cases h0 : i.natAbs = 0
         · simp [h0]
         · have := (Nat.log2_lt h0).mpr h
           simp [h0]; omega)
theorem op_powW : OpR X (binaryOp .Pow) (rI (fun i j => 0 ≤ j ∧ j ≤ 1000 ∧ i.natAbs < 2 ^ 200) fun i j => .int (i ^ j.toNat)) := opI fun i j _ _ _ _ _ hc q => by
  refine pow_int hc.1 ?_ q
  have h1 : (Builtin.Int.intBits i : Int) ≤ 200 := by exact_mod_cast bits_of hc.2.2
  have h2 : (Builtin.Int.intBits i : Int) * j ≤ 200 * 1000 := Int.mul_le_mul h1 hc.2.1 hc.1 (by decide)
  exact Int.le_trans h2 (by decide)
theorem de_pow (ha : DE X W a ea) (hb : DE X W b eb) : DE X W (.BinOp a .Pow b pos) (eBin pPow ea eb) := de_bin op_powW (opk_int fun i j k e => by
  split at e
  · rename_i h
    cases e
    refine ⟨⟨h.1, h.2.1, ?_⟩, rfl⟩
    have h3 : i.natAbs ≤ 10 ^ 60 := by
      have e : ((10 ^ 60 : Nat) : Int) = (10 : Int) ^ 60 := by decide
      omega
    exact Nat.lt_of_le_of_lt h3 (by decide)
  · cases e) ha hb
theorem de_shl (ha : DE X W a ea) (hb : DE X W b eb) : DE X W (.BinOp a .LShift b pos) (eBin pShl ea eb) := de_bin op_shl (opk_int fun i j k e => by
  split at e
  · rename_i h
    cases e
    refine ⟨⟨h.1, h.2.1, ?_⟩, rfl⟩
    have := short_pow h.2.2
    have e : ((2 ^ 64 : Nat) : Int) = (2 : Int) ^ 64 := by decide
    omega
  · cases e) ha hb
theorem de_shr (ha : DE X W a ea) (hb : DE X W b eb) : DE X W (.BinOp a .RShift b pos) (eBin pShr ea eb) := de_bin op_shr (opk_int fun i j k e => by
  split at e
  · rename_i h
    cases e
    exact ⟨h, rfl⟩
  · cases e) ha hb
theorem de_and_ (ha : DE X W a ea) (hb : DE X W b eb) : DE X W (.BinOp a .BitAnd b pos) (eBin pAnd ea eb) := de_bin op_and opk_int0 ha hb
theorem de_neg (ha : DE X W a ea) : DE X W (.UnaryOp .USub a pos) (eUn (fun x _ => match x with | .d (.int i) => some (.d (.int (-i))) | _ => none) ea) := de_un un_neg (by
  intro f S H vx x z Q hS rx hp hq
  dsimp only at hp
  split at hp
  · cases hp
    cases rx
    exact ⟨_, rfl, hq _ H hS (Kp.refl _ _) (Is.int _)⟩
  · cases hp) ha
theorem de_lt (ha : DE X W a ea) (hb : DE X W b eb) : DE X W (.Compare a [.Lt] [b] pos) (eBin pLt ea eb) := de_cmp op_lt opk_rel ha hb (nomark _)
theorem de_le (ha : DE X W a ea) (hb : DE X W b eb) : DE X W (.Compare a [.LtE] [b] pos) (eBin pLe ea eb) := de_cmp op_le opk_rel ha hb (nomark _)
theorem de_gt (ha : DE X W a ea) (hb : DE X W b eb) : DE X W (.Compare a [.Gt] [b] pos) (eBin pGt ea eb) := de_cmp op_gt opk_rel ha hb (nomark _)
theorem de_ge (ha : DE X W a ea) (hb : DE X W b eb) : DE X W (.Compare a [.GtE] [b] pos) (eBin pGe ea eb) := de_cmp op_ge opk_rel ha hb (nomark _)
theorem dt_lt (ha : DE X W a ea) (hb : DE X W b eb) : DT X W (.Compare a [.Lt] [b] pos) (tVal (eBin pLt ea eb)) := dt_cmp op_lt opk_rel ha hb (nomark _)
theorem dt_le (ha : DE X W a ea) (hb : DE X W b eb) : DT X W (.Compare a [.LtE] [b] pos) (tVal (eBin pLe ea eb)) := dt_cmp op_le opk_rel ha hb (nomark _)
theorem dt_gt (ha : DE X W a ea) (hb : DE X W b eb) : DT X W (.Compare a [.Gt] [b] pos) (tVal (eBin pGt ea eb)) := dt_cmp op_gt opk_rel ha hb (nomark _)
theorem dt_ge (ha : DE X W a ea) (hb : DE X W b eb) : DT X W (.Compare a [.GtE] [b] pos) (tVal (eBin pGe ea eb)) := dt_cmp op_ge opk_rel ha hb (nomark _)
/-- a op b op c -/
theorem chain_go {r r' : R2} {p p' : SV → SV → Sto → Option SV} (hk : OpK X r p) (hk' : OpK X r' p') (hp : ∀ x y S z, p x y S = some z → ∃ b, z = .d (.bool b)) {σV : L2.St} {H : Hp} {Q : VK} (h : TX X W (eChain p p' ea eb ec) σV H Q) : tChain r r' (TX X W ea) (TX X W eb) (TX X W ec) σV H Q := by
    obtain ⟨f, σ, S, r, hE, hS, he, hq⟩ := h
    have hx := exc_way hq
    refine TX.first hE hS he hx fun x S1 vx H1 _ h1 s1 k1 e1 r1 => ?_
    refine TX.first e1 s1 h1 (fun y S' e => (hx y S' e).kp k1) fun y S2 vy H2 _ h2 s2 k2 e2 r2 => ?_
    cases hpp : p x y S2 with
    | none => rw [hpp] at h2; cases h2
    | some z =>
      rw [hpp] at h2
      refine hk f S2 H2 vx vy x y z _ s2 (r1.kp k2) r2 hpp fun v H3 s3 k3 r3 => ?_
      obtain ⟨d, rfl⟩ := hp _ _ _ _ hpp
      cases r3
      refine ⟨d, rfl, ?_⟩
      cases d with
      | true =>
        dsimp only at h2
        rw [if_pos rfl]
        have k13 := (k1.trans k2).trans k3
        refine TX.first (e2.kp k3) s3 h2 (fun w S' e => (hx w S' e).kp k13) fun w S4 vw H4 _ h4 s4 k4 e4 r4 => ?_
        cases hp2 : p' y w S4 with
        | none => rw [hp2] at h4; cases h4
        | some u =>
          rw [hp2] at h4
          cases h4
          exact hk' f S4 H4 vy vw y w u Q s4 ((r2.kp k3).kp k4) r4 hp2 fun v H' s' k' r' => hq v H' s' ((k13.trans k4).trans k') r'
      | false =>
        dsimp only at h2
        rw [if_neg Bool.false_ne_true]
        cases h2
        exact hq _ H3 s3 ((k1.trans k2).trans k3) (Is.bl false)
theorem de_chain {op op' : CmpOp} {r r' : R2} {p p' : SV → SV → Sto → Option SV} (ho : OpR X (compareOp op) r) (ho' : OpR X (compareOp op') r') (hk : OpK X r p) (hk' : OpK X r' p') (hp : ∀ x y S z, p x y S = some z → ∃ b, z = .d (.bool b))
    (ha : DE X W a ea) (hb : DE X W b eb) (hc : DE X W c ec) (hm : lastMarks [op, op'] [b, c] = false := by with_unfolding_all rfl) : DE X W (.Compare a [op, op'] [b, c] pos) (eChain p p' ea eb ec) :=
  pe_imp (pe_chain ho ho' ha hb hc hm) fun σV H Q h => chain_go hk hk' hp h
theorem dt_chain {op op' : CmpOp} {r r' : R2} {p p' : SV → SV → Sto → Option SV} (ho : OpR X (compareOp op) r) (ho' : OpR X (compareOp op') r') (hk : OpK X r p) (hk' : OpK X r' p') (hp : ∀ x y S z, p x y S = some z → ∃ b, z = .d (.bool b))
    (ha : DE X W a ea) (hb : DE X W b eb) (hc : DE X W c ec) (hm : lastMarks [op, op'] [b, c] = false := by with_unfolding_all rfl) : DT X W (.Compare a [op, op'] [b, c] pos) (tVal (eChain p p' ea eb ec)) :=
  pt_imp (pt_chain ho ho' ha hb hc hm) fun σV H Q ⟨f, σ, S, r, hE, hS, he, hq⟩ => by
    unfold tVal at he
    refine chain_go (W := W) hk hk' hp ?_
    refine TX.first hE hS he (fun x S' e => by subst e; exact hq) fun x S1 vx H1 _ h1 s1 k1 e1 r1 => ?_
    split at h1
    · cases h1
      cases r1
      exact ⟨_, rfl, hq _ s1 k1⟩
    · cases h1
theorem irel_bool {h : Int → Int → Bool} : ∀ x y S z, irel h x y S = some z → ∃ b, z = .d (.bool b) := fun x y S z e => by
  unfold irel at e
  split at e
  · cases e; exact ⟨_, rfl⟩
  · cases e
theorem de_chLeLe (ha : DE X W a ea) (hb : DE X W b eb) (hc : DE X W c ec) (hm : lastMarks [CmpOp.LtE, CmpOp.LtE] [b, c] = false := by with_unfolding_all rfl) : DE X W (.Compare a [.LtE, .LtE] [b, c] pos) (eChain pLe pLe ea eb ec) := de_chain op_le op_le opk_rel opk_rel irel_bool ha hb hc hm
theorem de_chLeLt (ha : DE X W a ea) (hb : DE X W b eb) (hc : DE X W c ec) (hm : lastMarks [CmpOp.LtE, CmpOp.Lt] [b, c] = false := by with_unfolding_all rfl) : DE X W (.Compare a [.LtE, .Lt] [b, c] pos) (eChain pLe pLt ea eb ec) := de_chain op_le op_lt opk_rel opk_rel irel_bool ha hb hc hm

theorem dt_chLeLe (ha : DE X W a ea) (hb : DE X W b eb) (hc : DE X W c ec) (hm : lastMarks [CmpOp.LtE, CmpOp.LtE] [b, c] = false := by with_unfolding_all rfl) : DT X W (.Compare a [.LtE, .LtE] [b, c] pos) (tVal (eChain pLe pLe ea eb ec)) := dt_chain op_le op_le opk_rel opk_rel irel_bool ha hb hc hm
theorem dt_chLeLt (ha : DE X W a ea) (hb : DE X W b eb) (hc : DE X W c ec) (hm : lastMarks [CmpOp.LtE, CmpOp.Lt] [b, c] = false := by with_unfolding_all rfl) : DT X W (.Compare a [.LtE, .Lt] [b, c] pos) (tVal (eChain pLe pLt ea eb ec)) := dt_chain op_le op_lt opk_rel opk_rel irel_bool ha hb hc hm
/-! ## data: what a value is -/
@[simp] def res : SV → Sto → Option PyData
  | .d x, _ => some x
  | .r i, S => match S[i]? with
    | some (.lst ds) => some (.list ds)
    | _ => none
  | .s ns, _ => some (.list (ns.map .int))
  | .k _ _ _ _, _ => none
  | .t _ _ _ _ _, _ => none
theorem ints_nd : ∀ ns : List Int, PyData.hasDictAll (ns.map .int) = false
  | [] => by simp [PyData.hasDictAll]
  | n :: ns => by simp [PyData.hasDictAll, PyData.hasDict, ints_nd ns]
theorem rs_ints {X : Cx} {pins : List (Addr × Obj)} {σ : L2.St} {H : Hp} {s : Shared} (I : Inv X pins σ H s) : ∀ (ns : List Int) (us : List Value), Vals (ns.map V.int) us → ∃ as, ReadsAll s.heap us (ns.map .int) as
  | [], _, r => by
    cases r
    exact ⟨_, ReadsAll.nil⟩
  | n :: ns, _, r => by
    cases r with
    | cons r1 r2 =>
      obtain ⟨t, rfl⟩ := r1
      obtain ⟨as, h⟩ := rs_ints I ns _ r2
      exact ⟨_, ReadsAll.cons (Reads.int n t) h⟩
theorem res_rs {X : Cx} {f : Ow} {S : Sto} {H : Hp} {v : V} {x : SV} {d : PyData} (hS : StoR X.K f S H) (r : SvR X.K f H v x) (e : res x S = some d) : Rs X H v d := by
  intro pins σ s u I ru
  cases x with
  | d x =>
    cases e
    obtain ⟨as, h, n⟩ := Is.reads I _ _ _ r ru
    exact ⟨as, h, fun _ => n⟩
  | r i =>
    obtain ⟨a, ea, rfl⟩ := r
    simp only [res] at e
    split at e
    · rename_i ds e1
      cases e
      obtain ⟨vs, h1, h2⟩ := hS.at_ i _ a e1 ea
      cases ru
      obtain ⟨its, rv, ⟨o, n, ho, hc, _, hd⟩, _⟩ := I.list (.inl (.inl h1))
      obtain ⟨as, hr, hn⟩ := Is.readsAll I ds _ its h2 rv
      exact ⟨_, Reads.list ho hc hd hr, fun _ m => (List.mem_cons.mp m).elim (fun e => hS.sy.1 (e ▸ List.mem_of_getElem? ea)) hn⟩
    · cases e
  | s ns =>
    obtain ⟨a, rfl, h⟩ := r
    cases e
    cases ru
    obtain ⟨its, rv, ⟨o, n, ho, hc, _, hd⟩, _⟩ := I.list h.sq
    obtain ⟨as, hr⟩ := rs_ints I ns its rv
    refine ⟨_, Reads.list ho hc hd hr, fun z => ?_⟩
    have := ints_nd ns
    rw [PyData.hasDict, this] at z
    cases z
  | k a x c d => cases e
  | t a1 a2 a3 a4 a5 => cases e
/-- == that the model decides without looking further -/
def okD (d : PyData) : Bool := SeqAt.shaped d
def okQ (d e : PyData) : Prop := (okD d = true ∧ okD e = true) ∨ empD d e = true
theorem okQ_of {d e : PyData} (h1 : okD d = true) (h2 : okD e = true) : okQ d e := .inl ⟨h1, h2⟩
@[simp] theorem okQ_nilT (ds : List PyData) : okQ (.tuple ds) (.tuple []) := .inr rfl
@[simp] theorem okQ_nilL (ds : List PyData) : okQ (.list ds) (.list []) := .inr rfl
@[simp] theorem okQ_simp {d e : PyData} (h1 : okD d = true) (h2 : okD e = true) : okQ d e := .inl ⟨h1, h2⟩
open Classical in
@[simp] noncomputable def pEq : SV → SV → Sto → Option SV := fun x y S => match x, y with
  | .d (.str a), .d (.str b) => some (.d (.bool (decide (a = b))))
  | x, y => (res x S).bind fun d => (res y S).bind fun e => if okQ d e then some (.d (.bool (PyData.eqv d e))) else none
open Classical in
@[simp] noncomputable def pNe : SV → SV → Sto → Option SV := fun x y S => match x, y with
  | .d (.str a), .d (.str b) => some (.d (.bool (!decide (a = b))))
  | x, y => (res x S).bind fun d => (res y S).bind fun e => if okQ d e then some (.d (.bool (!PyData.eqv d e))) else none
theorem OpR.or {X : Cx} {f : Value → Value → Sem Value} {r r' : R2} (h : OpR X f r) (h' : OpR X f r') : OpR X f (fun x y H Q => r x y H Q ∨ r' x y H Q) := by
  intro pins s σ H x y v u Q I rx ry q
  rcases q with q | q
  · exact h pins s σ H x y v u Q I rx ry q
  · exact h' pins s σ H x y v u Q I rx ry q
theorem opk_eq : OpK X (fun x y H Q => rEqR X x y H Q ∨ rEq x y H Q) pEq := by
  intro f S H vx vy x y z Q hS rx ry hp hq
  unfold pEq at hp
  split at hp
  · rename_i a b
    cases hp
    cases rx
    cases ry
    refine .inr ⟨rfl, ?_⟩
    have e : decide (V.str a = V.str b) = decide (a = b) := by
      by_cases h : a = b
      · subst h; simp
      · have h2 : ¬ (V.str a = V.str b) := fun q => h (V.str.inj q)
        rw [decide_eq_false h, decide_eq_false h2]
    rw [e]
    exact hq _ H hS (Kp.refl _ _) (Is.bl _)
  · cases e1 : res x S with
    | none => rw [e1] at hp; cases hp
    | some d =>
    cases e2 : res y S with
    | none => rw [e1, e2] at hp; cases hp
    | some e =>
    rw [e1, e2] at hp
    dsimp only [Option.bind_some] at hp
    split at hp
    · rename_i h
      cases hp
      exact .inl ⟨d, e, res_rs hS rx e1, res_rs hS ry e2, h, hq _ H hS (Kp.refl _ _) (Is.bl _)⟩
    · cases hp
theorem opk_ne : OpK X (fun x y H Q => rNeR X x y H Q ∨ rNe x y H Q) pNe := by
  intro f S H vx vy x y z Q hS rx ry hp hq
  unfold pNe at hp
  split at hp
  · rename_i a b
    cases hp
    cases rx
    cases ry
    refine .inr ⟨rfl, ?_⟩
    have e : decide (V.str a = V.str b) = decide (a = b) := by
      by_cases h : a = b
      · subst h; simp
      · have h2 : ¬ (V.str a = V.str b) := fun q => h (V.str.inj q)
        rw [decide_eq_false h, decide_eq_false h2]
    rw [e]
    exact hq _ H hS (Kp.refl _ _) (Is.bl _)
  · cases e1 : res x S with
    | none => rw [e1] at hp; cases hp
    | some d =>
    cases e2 : res y S with
    | none => rw [e1, e2] at hp; cases hp
    | some e =>
    rw [e1, e2] at hp
    dsimp only [Option.bind_some] at hp
    split at hp
    · rename_i h
      cases hp
      exact .inl ⟨d, e, res_rs hS rx e1, res_rs hS ry e2, h, hq _ H hS (Kp.refl _ _) (Is.bl _)⟩
    · cases hp
theorem de_eq (G : Gq X) (ha : DE X W a ea) (hb : DE X W b eb) : DE X W (.Compare a [.Eq] [b] pos) (eBin pEq ea eb) := de_cmp (OpR.or (op_eqR (by have := G.un; omega)) op_eq) opk_eq ha hb (nomark _)
theorem de_ne (G : Gq X) (ha : DE X W a ea) (hb : DE X W b eb) : DE X W (.Compare a [.NotEq] [b] pos) (eBin pNe ea eb) := de_cmp (OpR.or (op_neR (by have := G.un; omega)) op_ne) opk_ne ha hb (nomark _)
theorem dt_eq (G : Gq X) (ha : DE X W a ea) (hb : DE X W b eb) : DT X W (.Compare a [.Eq] [b] pos) (tVal (eBin pEq ea eb)) := dt_cmp (OpR.or (op_eqR (by have := G.un; omega)) op_eq) opk_eq ha hb (nomark _)
theorem dt_ne (G : Gq X) (ha : DE X W a ea) (hb : DE X W b eb) : DT X W (.Compare a [.NotEq] [b] pos) (tVal (eBin pNe ea eb)) := dt_cmp (OpR.or (op_neR (by have := G.un; omega)) op_ne) opk_ne ha hb (nomark _)

/-! ## items -/
@[simp] def pIx : SV → SV → Sto → Option SV := fun x y S => match y with
  | .d (.int i) => match x with
    | .d (.list ds) => (atI ds i).map .d
    | .d (.tuple ds) => (atI ds i).map .d
    | .d (.str z) => if z.length ≤ sizeLine then (atI z.cps.toList i).map fun c => .d (.str ⟨#[c]⟩) else none
    | .r j => match S[j]? with
      | some (.lst ds) => (atI ds i).map .d
      | _ => none
    | .s ns => (atI ns i).map fun n => .d (.int n)
    | _ => none
  | _ => none
theorem at_is {K : PySem.W.Frag} {f : Ow} {H : Hp} {vs : List V} {ds : List PyData} {i : Int} {d : PyData} (h : IsAll K f H vs ds) (e : atI ds i = some d) : ∃ v, atI vs i = some v ∧ Is K f H v d := by
  unfold atI at e ⊢
  rw [h.len]
  cases en : ixN ds.length i with
  | none => rw [en] at e; cases e
  | some j =>
    rw [en] at e
    exact h.get e
theorem opk_ix : OpK X (rIx X.K) pIx := by
  intro f S H vx vy x y z Q hS rx ry hp hq
  unfold pIx at hp
  split at hp
  · rename_i i
    cases ry
    split at hp
    · rename_i ds
      cases e : atI ds i with
      | none => rw [e] at hp; cases hp
      | some d =>
        rw [e] at hp; cases hp
        cases rx with
        | @lst a xs _ h1 h2 =>
        obtain ⟨v, ev, iv⟩ := at_is h2 e
        exact .inl ⟨a, xs, i, v, rfl, rfl, h1.sq, ev, hq v H hS (Kp.refl _ _) iv⟩
    · rename_i ds
      cases e : atI ds i with
      | none => rw [e] at hp; cases hp
      | some d =>
        rw [e] at hp; cases hp
        cases rx with
        | @tup a xs _ h1 h2 =>
        obtain ⟨v, ev, iv⟩ := at_is h2 e
        exact .inr (.inl ⟨a, xs, i, v, rfl, rfl, h1.sq, ev, hq v H hS (Kp.refl _ _) iv⟩)
    · rename_i s
      split at hp
      · rename_i hz
        cases e : atI s.cps.toList i with
        | none => rw [e] at hp; cases hp
        | some c =>
          rw [e] at hp; cases hp
          cases rx
          exact .inr (.inr ⟨s, i, c, rfl, rfl, hz, e, hq _ H hS (Kp.refl _ _) (Is.str _)⟩)
      · cases hp
    · rename_i j
      split at hp
      · rename_i ds e0
        cases e : atI ds i with
        | none => rw [e] at hp; cases hp
        | some d =>
          rw [e] at hp; cases hp
          obtain ⟨a, ea, rfl⟩ := rx
          obtain ⟨xs, h1, h2⟩ := hS.at_ j _ a e0 ea
          obtain ⟨v, ev, iv⟩ := at_is h2 e
          exact .inl ⟨a, xs, i, v, rfl, rfl, .inl (.inl h1), ev, hq v H hS (Kp.refl _ _) iv⟩
      · cases hp
    · rename_i ns
      cases e : atI ns i with
      | none => rw [e] at hp; cases hp
      | some n =>
        rw [e] at hp; cases hp
        obtain ⟨a, rfl, h⟩ := rx
        refine .inl ⟨a, _, i, .int n, rfl, rfl, h.sq, ?_, hq _ H hS (Kp.refl _ _) (Is.int n)⟩
        unfold atI at e ⊢
        rw [List.length_map]
        cases en : ixN ns.length i with
        | none => rw [en] at e; cases e
        | some j =>
          rw [en] at e
          have e : ns[j]? = some n := e
          show (ns.map V.int)[j]? = some (.int n)
          rw [List.getElem?_map, e]; rfl
    · cases hp
  · cases hp
theorem de_ix (ha : DE X W a ea) (hb : DE X W b eb) (hs : PlainIx b := by intro _ _; rfl) : DE X W (.Subscript a b pos) (eBin pIx ea eb) :=
  pe_imp (pe_ix ix_seq ha hb hs) fun _ _ _ h => two opk_ix h
end
end Z
set_option maxRecDepth 100000
set_option maxHeartbeats 1000000
namespace Z
open PySem PySem.Spec PyProof.Rows L2

/-! ## tuple * int, any int -/
theorem tup_mul_same (l : Addr) (items : Array Value) (n : Nat) (dd : Option Addr) (sl : Array (Option Value)) (u : Tok) :
    Meets (Builtin.«tuple.__mul__» ⟨[.ref l, .int 1 u], []⟩) (fun _ R s => s.heap.get? l = some { cls := .type "tuple", dict := dd, data := .seq items n, slots := sl } ∧ R (.ok (.ret (Value.ref l))) s) :=
  .of_wp fun prog w A R s h => by
    obtain ⟨hp, g, d, tk, os⟩ := s
    obtain ⟨hl, h⟩ := h
    have f1 := AutoSeq1.idx_int
    wp_walk using wpAny_loadPart' hl
    repeat (first
      | (refine wpAny_ite_false (by decide) ?_; wp_walk using wpAny_loadPart' hl)
      | (refine wpAny_ite_true (by simp) ?_; wp_walk using wpAny_loadPart' hl))
    exact ⟨_, rfl, h⟩
theorem tup_mul_none (l : Addr) (items : Array Value) (n : Nat) (dd : Option Addr) (sl : Array (Option Value)) (x : Int) (u : Tok) (c0 : (decide (x < -(2 ^ 63)) || decide (x ≥ 2 ^ 63)) = false) (c1 : (items.isEmpty || x == 1) = false) (c2 : (decide (x ≤ 0) || items.isEmpty) = true) :
    Meets (Builtin.«tuple.__mul__» ⟨[.ref l, .int x u], []⟩) (fun _ R s => s.heap.get? l = some { cls := .type "tuple", dict := dd, data := .seq items n, slots := sl } ∧
      R (.ok (.ret (Value.ref s.heap.objs.size))) { s with heap := s.heap.push { cls := Value.type "tuple", data := Data.seq #[] }, toks := s.toks }) :=
  .of_wp fun prog w A R s h => by
    obtain ⟨hp, g, d, tk, os⟩ := s
    obtain ⟨hl, h⟩ := h
    have f1 := AutoSeq1.idx_int
    wp_walk using wpAny_loadPart' hl
    repeat (first
      | (refine wpAny_ite_false (decide_eq_false (by rw [c0]; exact Bool.false_ne_true)) ?_; wp_walk using wpAny_loadPart' hl)
      | (refine wpAny_ite_false (decide_eq_false (by rw [c1]; exact Bool.false_ne_true)) ?_; wp_walk using wpAny_loadPart' hl)
      | (refine wpAny_ite_true (decide_eq_true c2) ?_; wp_walk using wpAny_loadPart' hl)
      | (refine wpAny_ite_false (by decide) ?_; wp_walk using wpAny_loadPart' hl))
    exact ⟨_, rfl, h⟩
/-- any tuple that is not empty, any int -/
def rMulT (K : PySem.W.Frag) : R2 := fun x y H Q => ∃ l k xs, x = .ref l ∧ y = .int k ∧ SqT K H l xs ∧ xs ≠ [] ∧ -(2 ^ 63) ≤ k ∧ k ≤ 1000 ∧ xs.length ≤ 1000 ∧ (k = 1 → Q (.ref l) H) ∧ (k ≠ 1 → ∀ p, H p = none → Q (.ref p) (upd H p (.tup (List.replicate k.toNat xs).flatten)))
theorem op_mulT {X : Cx} : OpR X (binaryOp .Mult) (rMulT X.K) := by
  intro pins s σ H x y v u Q I rx ry h
  obtain ⟨l, k, xs, rfl, rfl, hT, hne, h1, h2, hz, q1, q2⟩ := h
  by_cases hk : 2 ≤ k
  · exact op_repT pins s σ H _ _ v u Q I rx ry ⟨l, k, xs, rfl, rfl, hT, hne, hk, h2, hz, q2 (by omega)⟩
  · cases rx
    obtain ⟨t, rfl⟩ := ry
    obtain ⟨its, r, ⟨⟨cls, dd, data, sl⟩, ho, hc, n, hd⟩, hs⟩ := I.tuple hT
    simp only at hc hd
    subst hc hd
    have hn : its ≠ [] := fun e => hne (by
      subst e
      cases r
      rfl)
    have hi : its.toArray.isEmpty = false := by
      cases its with
      | nil => exact absurd rfl hn
      | cons a b => rfl
    by_cases h3 : k = 1
    · subst h3
      refine wpAny_binaryOp_repeat_ref (T := "tuple") (U := "int") (by decide) ⟨_, ho, rfl⟩ (fun s' => typeIs_int s' 1 t) noFill_tuple_mul F.fills_int_mul F.slot_int_rmul repeat_tuple F.slot_int_index.lookup
        (call_meets F.slot_int_rmul (typeIs_int s 1 t) F.entry_int_rmul (F.args_int_rmul_2 _ _) (int_rmul_tuple 1 t l its.toArray n dd sl)
          ⟨ho, rfl, ⟨_, ho, rfl⟩, call_meets F.slot_tuple_mul ⟨_, ho, rfl⟩ F.entry_tuple_mul (F.args_tuple_mul_2 _ _) (tup_mul_same l its.toArray n dd sl t) ⟨ho, ?_⟩⟩)
      exact ⟨.ref l, H, I, rfl, q1 rfl⟩
    · have c0 : (decide (k < -(2 ^ 63)) || decide (k ≥ 2 ^ 63)) = false := by
        rw [decide_eq_false (by omega), decide_eq_false (by omega)] <;> rfl
      have c1 : (its.toArray.isEmpty || k == 1) = false := by
        rw [hi, Bool.false_or]
        exact beq_eq_false_iff_ne.mpr h3
      have c2 : (decide (k ≤ 0) || its.toArray.isEmpty) = true := by
        rw [decide_eq_true (by omega)]; rfl
      refine wpAny_binaryOp_repeat_ref (T := "tuple") (U := "int") (by decide) ⟨_, ho, rfl⟩ (fun s' => typeIs_int s' k t) noFill_tuple_mul F.fills_int_mul F.slot_int_rmul repeat_tuple F.slot_int_index.lookup
        (call_meets F.slot_int_rmul (typeIs_int s k t) F.entry_int_rmul (F.args_int_rmul_2 _ _) (int_rmul_tuple k t l its.toArray n dd sl)
          ⟨ho, rfl, ⟨_, ho, rfl⟩, call_meets F.slot_tuple_mul ⟨_, ho, rfl⟩ F.entry_tuple_mul (F.args_tuple_mul_2 _ _) (tup_mul_none l its.toArray n dd sl k t c0 c1 c2) ⟨ho, ?_⟩⟩)
      have ek : k.toNat = 0 := by omega
      have q := q2 h3
      rw [ek] at q
      refine ⟨.ref s.heap.objs.size, _, I.laid (t' := s.toks) (o := .tup []) (fun b ob q => Heap.get?_push_of_some _ q) (Nat.le_refl _) ?_, rfl, q _ (I.hok.fresh (Nat.le_refl _))⟩
      exact ⟨Nat.zero_le _, [], .nil, IsTup.new _ _⟩

/-! ## +, * of lists and tuples, beside ints -/
@[simp] def pMulA : SV → SV → Sto → Option SV := fun x y S => match x with
  | .d (.tuple ds) => match y with
    | .d (.int k) => if ds ≠ [] ∧ ds.length ≤ 1000 ∧ -1000 ≤ k ∧ k ≤ 1000 then some (.d (.tuple (List.replicate k.toNat ds).flatten)) else none
    | _ => none
  | .d (.list ds) => match y with
    | .d (.int k) => if ds.length ≤ 1000 ∧ -1000 ≤ k ∧ k ≤ 1000 then some (.d (.list (List.replicate k.toNat ds).flatten)) else none
    | _ => none
  | _ => none
theorem is_flat {K : PySem.W.Frag} {f : Ow} {H : Hp} {xs : List V} {ds : List PyData} (h : IsAll K f H xs ds) : ∀ k : Nat, IsAll K f H (List.replicate k xs).flatten (List.replicate k ds).flatten
  | 0 => .nil
  | k + 1 => by
    rw [List.replicate_succ, List.replicate_succ, List.flatten_cons, List.flatten_cons]
    exact h.app (is_flat h k)
section
variable {X : Cx} {W : WX} {a b c : Expr} {ea eb ec : Ex} {pos : Pos}
theorem opk_mulA : OpK X (fun x y H Q => rMulT X.K x y H Q ∨ rRep x y H Q) pMulA := by
  intro f S H vx vy x y z Q hS rx ry hp hq
  unfold pMulA at hp
  split at hp
  · rename_i ds
    split at hp
    · rename_i k
      split at hp
      · rename_i h
        cases hp
        cases ry
        cases rx with
        | @tup a xs _ h1 h2 =>
        refine .inl ⟨a, k, xs, rfl, rfl, h1.sq, ?_, by omega, h.2.2.2, by rw [h2.len]; exact h.2.1, fun e => ?_, fun e p np => ?_⟩
        · intro e
          subst e
          cases h2
          exact h.1 rfl
        · subst e
          refine hq _ H hS (Kp.refl _ _) ?_
          simp only [Int.toNat_one, List.replicate_succ, List.replicate_zero, List.flatten_cons, List.flatten_nil, List.append_nil]
          exact Is.tup h1 h2
        · exact hq _ _ (hS.laid np) (Kp.new np) (Is.tup (.inl ⟨.inl upd_same, hS.free np⟩) (is_flat (h2.keep (Kp.new np).q (Gr.refl _ _)) k.toNat))
      · cases hp
    · cases hp
  · rename_i ds
    split at hp
    · rename_i k
      split at hp
      · rename_i h
        cases hp
        cases ry
        cases rx with
        | @lst a xs _ h1 h2 =>
        refine .inr ⟨a, k, xs, rfl, rfl, h1.1, by omega, by omega, ?_, fun p np => ?_⟩
        · rw [h2.len]
          have : ds.length * k.toNat ≤ 1000 * 1000 := Nat.mul_le_mul h.1 (by omega)
          exact Nat.le_trans this (by decide)
        · exact hq _ _ (hS.laid np) (Kp.new np) (Is.lst ⟨upd_same, hS.free np⟩ (is_flat (h2.keep (Kp.new np).q (Gr.refl _ _)) k.toNat))
      · cases hp
    · cases hp
  · cases hp
theorem de_mulA (ha : DE X W a ea) (hb : DE X W b eb) : DE X W (.BinOp a .Mult b pos) (eBin pMulA ea eb) := de_bin (OpR.or op_mulT op_rep) opk_mulA ha hb
/-- lists: of the store too -/
@[simp] def asL : SV → Sto → Option (List PyData)
  | .d (.list ds), _ => some ds
  | .r i, S => match S[i]? with
    | some (.lst ds) => some ds
    | _ => none
  | _, _ => none
theorem asL_is {f : Ow} {S : Sto} {H : Hp} {v : V} {x : SV} {ds : List PyData} (hS : StoR X.K f S H) (r : SvR X.K f H v x) (e : asL x S = some ds) : ∃ a xs, v = .ref a ∧ H a = some (.lst xs) ∧ IsAll X.K f H xs ds := by
  unfold asL at e
  split at e
  · cases e
    cases r with
    | @lst a xs _ h1 h2 => exact ⟨a, xs, rfl, h1.1, h2⟩
  · split at e
    · rename_i ds e1
      cases e
      obtain ⟨a, ea, rfl⟩ := r
      obtain ⟨xs, h1, h2⟩ := hS.at_ _ _ a e1 ea
      exact ⟨a, xs, rfl, h1, h2⟩
    · cases e
  · cases e
@[simp] def pCat : SV → SV → Sto → Option SV := fun x y S => match x, y with
  | .d (.tuple ds), .d (.tuple es) => if ds.length + es.length ≤ sizeLine then some (.d (.tuple (ds ++ es))) else none
  | .d (.str s), .d (.str t) => if s.length + t.length ≤ sizeLine then some (.d (.str (s ++ t))) else none
  | x, y => (asL x S).bind fun ds => (asL y S).bind fun es => if ds.length + es.length ≤ sizeLine then some (.d (.list (ds ++ es))) else none
theorem opk_cat : OpK X (fun x y H Q => (rCatA X.K x y H Q ∨ rCat x y H Q) ∨ (∃ i j, x = .str i ∧ y = .str j ∧ i.length + j.length ≤ sizeLine ∧ Q (.str (i ++ j)) H)) pCat := by
  intro f S H vx vy x y z Q hS rx ry hp hq
  unfold pCat at hp
  split at hp
  · rename_i ds es
    split at hp
    · rename_i h
      cases hp
      cases rx with
      | @tup a xs _ h1 h2 =>
      cases ry with
      | @tup a' ys _ h1' h2' =>
      refine .inl (.inl ⟨a, a', xs, ys, rfl, rfl, h1.sq, h1'.sq, by rw [h2.len, h2'.len]; exact h, fun e => ?_, fun e1 e => ?_, fun e1 e2 p np => ?_⟩)
      · subst e
        cases h2
        exact hq _ H hS (Kp.refl _ _) (Is.tup h1' h2')
      · subst e
        cases h2'
        refine hq _ H hS (Kp.refl _ _) ?_
        rw [List.append_nil]
        exact Is.tup h1 h2
      · exact hq _ _ (hS.laid np) (Kp.new np) (Is.tup (.inl ⟨.inl upd_same, hS.free np⟩) ((h2.keep (Kp.new np).q (Gr.refl _ _)).app (h2'.keep (Kp.new np).q (Gr.refl _ _))))
    · cases hp
  · split at hp
    · rename_i h
      cases hp
      cases rx
      cases ry
      exact .inr ⟨_, _, rfl, rfl, h, hq _ H hS (Kp.refl _ _) (Is.str _)⟩
    · cases hp
  · cases e1 : asL x S with
    | none => rw [e1] at hp; cases hp
    | some ds =>
    cases e2 : asL y S with
    | none => rw [e1, e2] at hp; cases hp
    | some es =>
    rw [e1, e2] at hp
    dsimp only [Option.bind_some] at hp
    split at hp
    · rename_i h
      cases hp
      obtain ⟨a, xs, rfl, h1, h2⟩ := asL_is hS rx e1
      obtain ⟨b, ys, rfl, h1', h2'⟩ := asL_is hS ry e2
      refine .inl (.inr ⟨a, b, xs, ys, rfl, rfl, h1, h1', by rw [h2.len, h2'.len]; exact h, fun p np => ?_⟩)
      exact hq _ _ (hS.laid np) (Kp.new np) (Is.lst ⟨upd_same, hS.free np⟩ ((h2.keep (Kp.new np).q (Gr.refl _ _)).app (h2'.keep (Kp.new np).q (Gr.refl _ _))))
    · cases hp
theorem de_cat (ha : DE X W a ea) (hb : DE X W b eb) : DE X W (.BinOp a .Add b pos) (eBin pCat ea eb) := de_bin (OpR.or (OpR.or op_catA op_cat) op_add_str) opk_cat ha hb
/-- xs + ys, owned -/
@[simp] def nCat (ea eb : Ex) (σ : Sg) (S : Sto) : Option (Res Ob) := Res.bnd (ea σ S) fun x S1 => Res.bnd (eb σ S1) fun y S2 => (asL x S2).bind fun ds => (asL y S2).bind fun es => if ds.length + es.length ≤ sizeLine then some (.ok (.lst (ds ++ es)) S2) else none
theorem dn_cat (ha : DE X W a ea) (hb : DE X W b eb) : DN X W (.BinOp a .Add b pos) (nCat ea eb) :=
  pe_imp (pe_op op_cat ha hb) fun σV H Q ⟨f, σ, S, r, hE, hS, he, hq⟩ => by
    have hx : ∀ x S', r = .exc x S' → XS X W f σV H x S' := fun x S' e => by subst e; exact hq
    refine TX.first hE hS he hx fun x S1 vx H1 _ h1 s1 k1 e1 r1 => ?_
    refine TX.first e1 s1 h1 (fun y S' e => (hx y S' e).kp k1) fun y S2 vy H2 _ h2 s2 k2 e2 r2 => ?_
    cases ex : asL x S2 with
    | none => rw [ex] at h2; cases h2
    | some ds =>
    cases ey : asL y S2 with
    | none => rw [ex, ey] at h2; cases h2
    | some es =>
    rw [ex, ey] at h2
    dsimp only [Option.bind_some] at h2
    split at h2
    · rename_i h
      cases h2
      obtain ⟨a, xs, rfl, g1, g2⟩ := asL_is s2 (r1.kp k2) ex
      obtain ⟨b, ys, rfl, g1', g2'⟩ := asL_is s2 r2 ey
      refine ⟨a, b, xs, ys, rfl, rfl, g1, g1', by rw [g2.len, g2'.len]; exact h, fun p np => ?_⟩
      have k12 := k1.trans k2
      have nH : H p = none := by
        cases eH : H p with
        | none => rfl
        | some o =>
          have z := k12 p o (s2.free np).1 eH
          rw [np] at z; cases z
      have npp : ∀ b ∈ [p], H2 b = none := fun b hb => by
        have e' : b = p := by simpa using hb
        rw [e']; exact np
      exact hq p _ nH (s2.own np ⟨_, upd_same, (g2.keep (Kp.new np).q (Gr.app npp)).app (g2'.keep (Kp.new np).q (Gr.app npp))⟩) (k12.trans (Kp.new np))
    · cases h2
end
end Z
set_option maxRecDepth 100000
set_option maxHeartbeats 1000000
namespace Z
open PySem PySem.Spec PyProof.Rows L2

/-! ## what is built in -/
@[simp] def pLen : List SV → Sto → Option SV
  | [.d (.list ds)], _ => some (.d (.int ds.length))
  | [.d (.tuple ds)], _ => some (.d (.int ds.length))
  | [.d (.str z)], _ => if z.length ≤ sizeLine then some (.d (.int z.length)) else none
  | [.r i], S => match S[i]? with
    | some (.lst ds) => some (.d (.int ds.length))
    | _ => none
  | [.s ns], _ => some (.d (.int ns.length))
  | _, _ => none
section
variable {X : Cx} {W : WX}
theorem cak_len : CaK X (fun xs H Q => ∃ x n, xs = [x] ∧ LenV X.K x H n ∧ Q (.int n) H) pLen := by
  intro f S H vs xs z Q hS rx hp hq
  unfold pLen at hp
  split at hp
  · rename_i ds
    cases hp
    cases rx with
    | cons r1 r2 =>
    cases r2
    cases r1 with
    | @lst a xs _ h1 h2 => exact ⟨_, ds.length, rfl, .inl ⟨xs, h1.sq, h2.len.symm⟩, hq _ H hS (Kp.refl _ _) (Is.int _)⟩
  · rename_i ds
    cases hp
    cases rx with
    | cons r1 r2 =>
    cases r2
    cases r1 with
    | @tup a xs _ h1 h2 => exact ⟨_, ds.length, rfl, .inr ⟨xs, h1.sq, h2.len.symm⟩, hq _ H hS (Kp.refl _ _) (Is.int _)⟩
  · split at hp
    · rename_i hz
      cases hp
      cases rx with
      | cons r1 r2 =>
      cases r2
      cases r1
      exact ⟨_, _, rfl, ⟨hz, rfl⟩, hq _ H hS (Kp.refl _ _) (Is.int _)⟩
    · cases hp
  · split at hp
    · rename_i ds e1
      cases hp
      cases rx with
      | cons r1 r2 =>
      cases r2
      obtain ⟨a, ea, rfl⟩ := r1
      obtain ⟨vs, h1, h2⟩ := hS.at_ _ _ a e1 ea
      exact ⟨_, ds.length, rfl, .inl ⟨vs, .inl (.inl h1), h2.len.symm⟩, hq _ H hS (Kp.refl _ _) (Is.int _)⟩
    · cases hp
  · rename_i ns
    cases hp
    cases rx with
    | cons r1 r2 =>
    cases r2
    obtain ⟨a, rfl, h⟩ := r1
    exact ⟨_, ns.length, rfl, .inl ⟨_, h.sq, by simp⟩, hq _ H hS (Kp.refl _ _) (Is.int _)⟩
  · cases hp
@[simp] def pI1 (g : Int → Int) : List SV → Sto → Option SV
  | [.d (.int i)], _ => some (.d (.int (g i)))
  | _, _ => none
@[simp] def pI2 (g : Int → Int → Int) : List SV → Sto → Option SV
  | [.d (.int i), .d (.int j)], _ => some (.d (.int (g i j)))
  | _, _ => none
theorem cak_i1 {g : Int → Int} : CaK X (fun xs H Q => ∃ i, xs = [.int i] ∧ Q (.int (g i)) H) (pI1 g) := by
  intro f S H vs xs z Q hS rx hp hq
  unfold pI1 at hp
  split at hp
  · cases hp
    cases rx with
    | cons r1 r2 =>
    cases r2
    cases r1
    exact ⟨_, rfl, hq _ H hS (Kp.refl _ _) (Is.int _)⟩
  · cases hp
theorem cak_i2 {g : Int → Int → Int} : CaK X (fun xs H Q => ∃ i j, xs = [.int i, .int j] ∧ Q (.int (g i j)) H) (pI2 g) := by
  intro f S H vs xs z Q hS rx hp hq
  unfold pI2 at hp
  split at hp
  · cases hp
    cases rx with
    | cons r1 r2 =>
    cases r2 with
    | cons r2 r3 =>
    cases r3
    cases r1
    cases r2
    exact ⟨_, _, rfl, hq _ H hS (Kp.refl _ _) (Is.int _)⟩
  · cases hp
abbrev pAbs := pI1 fun i => if i < 0 then -i else i
abbrev pMax := pI2 fun i j => if j > i then j else i
abbrev pMin := pI2 fun i j => if j < i then j else i
@[simp] def pInt : List SV → Sto → Option SV
  | [.d (.int i)], _ => some (.d (.int i))
  | [.d (.bool b)], _ => some (.d (.int (if b then 1 else 0)))
  | _, _ => none
theorem cak_int : CaK X (fun xs H Q => (∃ i, xs = [.int i] ∧ Q (.int i) H) ∨ ∃ k, xs = [.bl k] ∧ Q (.int (if k then 1 else 0)) H) pInt := by
  intro f S H vs xs z Q hS rx hp hq
  unfold pInt at hp
  split at hp
  · cases hp
    cases rx with
    | cons r1 r2 =>
    cases r2
    cases r1
    exact .inl ⟨_, rfl, hq _ H hS (Kp.refl _ _) (Is.int _)⟩
  · cases hp
    cases rx with
    | cons r1 r2 =>
    cases r2
    cases r1
    exact .inr ⟨_, rfl, hq _ H hS (Kp.refl _ _) (Is.int _)⟩
  · cases hp
/-- str(an int), str(a text) -/
@[simp] def pStr : List SV → Sto → Option SV
  | [.d (.int i)], _ => if i.natAbs.log2 < 1920 then some (.d (.str (toString i))) else none
  | [.d (.str x)], _ => some (.d (.str x))
  | _, _ => none
theorem cak_str : CaK X (fun xs H Q => (∃ i, xs = [.int i] ∧ i.natAbs.log2 < 1920 ∧ Q (.str (toString i)) H) ∨ ∃ a, xs = [.str a] ∧ Q (.str a) H) pStr := by
  intro f S H vs xs z Q hS rx hp hq
  unfold pStr at hp
  split at hp
  · split at hp
    · rename_i hz
      cases hp
      cases rx with
      | cons r1 r2 =>
      cases r2
      cases r1
      exact .inl ⟨_, rfl, hz, hq _ H hS (Kp.refl _ _) (Is.str _)⟩
    · cases hp
  · cases hp
    cases rx with
    | cons r1 r2 =>
    cases r2
    cases r1
    exact .inr ⟨_, rfl, hq _ H hS (Kp.refl _ _) (Is.str _)⟩
  · cases hp
/-- list(x), tuple(x) -/
@[simp] def pListOf : List SV → Sto → Option SV
  | [.d (.tuple ds)], _ => some (.d (.list ds))
  | [x], S => (asL x S).map fun ds => .d (.list ds)
  | _, _ => none
theorem cak_listof : CaK X (fun xs H Q => ∃ p ys, xs = [.ref p] ∧ (SqL X.K H p ys ∨ SqT X.K H p ys) ∧ ∀ l, H l = none → Q (.ref l) (upd H l (.lst ys))) pListOf := by
  intro f S H vs xs z Q hS rx hp hq
  unfold pListOf at hp
  split at hp
  · cases hp
    cases rx with
    | cons r1 r2 =>
    cases r2
    cases r1 with
    | @tup a ys _ h1 h2 =>
    exact ⟨a, ys, rfl, .inr h1.sq, fun l nl => hq _ _ (hS.laid nl) (Kp.new nl) (Is.lst ⟨upd_same, hS.free nl⟩ (h2.keep (Kp.new nl).q (Gr.refl _ _)))⟩
  · rename_i x _
    cases e : asL x S with
    | none => rw [e] at hp; cases hp
    | some ds =>
    rw [e] at hp
    cases hp
    cases rx with
    | cons r1 r2 =>
    cases r2
    obtain ⟨a, ys, rfl, h1, h2⟩ := asL_is hS r1 e
    exact ⟨a, ys, rfl, .inl (.inl (.inl h1)), fun l nl => hq _ _ (hS.laid nl) (Kp.new nl) (Is.lst ⟨upd_same, hS.free nl⟩ (h2.keep (Kp.new nl).q (Gr.refl _ _)))⟩
  · cases hp
@[simp] def pTupOf : List SV → Sto → Option SV
  | [.d (.tuple ds)], _ => some (.d (.tuple ds))
  | [x], S => (asL x S).map fun ds => .d (.tuple ds)
  | _, _ => none
theorem cak_tupof : CaK X (fun xs H Q => ∃ p ys, xs = [.ref p] ∧ ((SqL X.K H p ys ∧ ∀ l, H l = none → Q (.ref l) (upd H l (.tup ys))) ∨ (SqT X.K H p ys ∧ Q (.ref p) H))) pTupOf := by
  intro f S H vs xs z Q hS rx hp hq
  unfold pTupOf at hp
  split at hp
  · cases hp
    cases rx with
    | cons r1 r2 =>
    cases r2
    cases r1 with
    | @tup a ys _ h1 h2 =>
    exact ⟨a, ys, rfl, .inr ⟨h1.sq, hq _ H hS (Kp.refl _ _) (Is.tup h1 h2)⟩⟩
  · rename_i x _
    cases e : asL x S with
    | none => rw [e] at hp; cases hp
    | some ds =>
    rw [e] at hp
    cases hp
    cases rx with
    | cons r1 r2 =>
    cases r2
    obtain ⟨a, ys, rfl, h1, h2⟩ := asL_is hS r1 e
    exact ⟨a, ys, rfl, .inl ⟨.inl (.inl h1), fun l nl => hq _ _ (hS.laid nl) (Kp.new nl) (Is.tup (.inl ⟨.inl upd_same, hS.free nl⟩) (h2.keep (Kp.new nl).q (Gr.refl _ _)))⟩⟩
  · cases hp
/-- the ints, the bools of data -/
def intsD : List PyData → Option (List Int)
  | [] => some []
  | .int i :: r => (intsD r).map (i :: ·)
  | _ :: _ => none
def boolsD : List PyData → Option (List Bool)
  | [] => some []
  | .bool i :: r => (boolsD r).map (i :: ·)
  | _ :: _ => none
theorem intsD_eq : ∀ {ds : List PyData} {ns : List Int}, intsD ds = some ns → ds = ns.map .int
  | [], _, h => by cases h; rfl
  | .int i :: r, ns, h => by
    unfold intsD at h
    cases e : intsD r with
    | none => rw [e] at h; cases h
    | some ms =>
      rw [e] at h
      cases h
      rw [intsD_eq e]; rfl
  | .none :: _, _, h => by cases h
  | .bool _ :: _, _, h => by cases h
  | .str _ :: _, _, h => by cases h
  | .list _ :: _, _, h => by cases h
  | .tuple _ :: _, _, h => by cases h
  | .dict _ :: _, _, h => by cases h
theorem boolsD_eq : ∀ {ds : List PyData} {ns : List Bool}, boolsD ds = some ns → ds = ns.map .bool
  | [], _, h => by cases h; rfl
  | .bool i :: r, ns, h => by
    unfold boolsD at h
    cases e : boolsD r with
    | none => rw [e] at h; cases h
    | some ms =>
      rw [e] at h
      cases h
      rw [boolsD_eq e]; rfl
  | .none :: _, _, h => by cases h
  | .int _ :: _, _, h => by cases h
  | .str _ :: _, _, h => by cases h
  | .list _ :: _, _, h => by cases h
  | .tuple _ :: _, _, h => by cases h
  | .dict _ :: _, _, h => by cases h
theorem intsD_map (ns : List Int) : intsD (ns.map .int) = some ns := by
  induction ns with
  | nil => rfl
  | cons n ns ih => simp [intsD, ih]
theorem boolsD_map (ns : List Bool) : boolsD (ns.map .bool) = some ns := by
  induction ns with
  | nil => rfl
  | cons n ns ih => simp [boolsD, ih]
@[simp] def pSum : List SV → Sto → Option SV
  | [x], S => (asL x S).bind fun ds => (intsD ds).map fun ns => .d (.int ns.sum)
  | _, _ => none
@[simp] def pAll : List SV → Sto → Option SV
  | [x], S => (asL x S).bind fun ds => (boolsD ds).map fun ns => .d (.bool (ns.all id))
  | _, _ => none
@[simp] def pAny : List SV → Sto → Option SV
  | [x], S => (asL x S).bind fun ds => (boolsD ds).map fun ns => .d (.bool (ns.any id))
  | _, _ => none
theorem cak_sum : CaK X (rSum X.K) pSum := by
  intro f S H vs xs z Q hS rx hp hq
  unfold pSum at hp
  split at hp
  · rename_i x
    cases e : asL x S with
    | none => rw [e] at hp; cases hp
    | some ds =>
    rw [e] at hp
    cases ei : intsD ds with
    | none => dsimp only [Option.bind_some] at hp; rw [ei] at hp; cases hp
    | some ns =>
    dsimp only [Option.bind_some] at hp
    rw [ei] at hp
    cases hp
    cases rx with
    | cons r1 r2 =>
    cases r2
    obtain ⟨a, ys, rfl, h1, h2⟩ := asL_is hS r1 e
    rw [intsD_eq ei] at h2
    have := h2.ints
    subst this
    exact ⟨a, ns, rfl, .inl (.inl h1), hq _ H hS (Kp.refl _ _) (Is.int _)⟩
  · cases hp
theorem cak_all : CaK X (rAll X.K) pAll := by
  intro f S H vs xs z Q hS rx hp hq
  unfold pAll at hp
  split at hp
  · rename_i x
    cases e : asL x S with
    | none => rw [e] at hp; cases hp
    | some ds =>
    rw [e] at hp
    cases ei : boolsD ds with
    | none => dsimp only [Option.bind_some] at hp; rw [ei] at hp; cases hp
    | some ns =>
    dsimp only [Option.bind_some] at hp
    rw [ei] at hp
    cases hp
    cases rx with
    | cons r1 r2 =>
    cases r2
    obtain ⟨a, ys, rfl, h1, h2⟩ := asL_is hS r1 e
    rw [boolsD_eq ei] at h2
    have := h2.bools
    subst this
    exact ⟨a, ns, rfl, .inl (.inl h1), hq _ H hS (Kp.refl _ _) (Is.bl _)⟩
  · cases hp
theorem cak_any : CaK X (rAny X.K) pAny := by
  intro f S H vs xs z Q hS rx hp hq
  unfold pAny at hp
  split at hp
  · rename_i x
    cases e : asL x S with
    | none => rw [e] at hp; cases hp
    | some ds =>
    rw [e] at hp
    cases ei : boolsD ds with
    | none => dsimp only [Option.bind_some] at hp; rw [ei] at hp; cases hp
    | some ns =>
    dsimp only [Option.bind_some] at hp
    rw [ei] at hp
    cases hp
    cases rx with
    | cons r1 r2 =>
    cases r2
    obtain ⟨a, ys, rfl, h1, h2⟩ := asL_is hS r1 e
    rw [boolsD_eq ei] at h2
    have := h2.bools
    subst this
    exact ⟨a, ns, rfl, .inl (.inl h1), hq _ H hS (Kp.refl _ _) (Is.bl _)⟩
  · cases hp

/-! ## repr of data -/
def rRepr (X : Cx) : List V → Hp → VK → Prop := fun vs H Q => ∃ v d, vs = [v] ∧ Rs X H v d ∧ d.showable = true ∧ d.depth ≤ 100 ∧ d.shown.length ≤ sizeLine ∧ Q (.str d.shown) H
theorem call_repr_d (G : Gq X) : CallR X (.builtin "repr") (rRepr X) := by
  intro pins s σ H vs us Q I rv h
  obtain ⟨v, d, rfl, rs, hs, hd, hz, q⟩ := h
  obtain ⟨u, rfl, ru⟩ := vals1 rv
  have room := G.un
  obtain ⟨as, r, nd⟩ := rs pins σ s u I ru
  have fin : ∀ (tk : Tok), EP X pins σ Q (.str d.shown tk) { s with toks := s.toks + 1 } := fun tk => ⟨.str d.shown, H, I.tok _, ⟨_, rfl⟩, q⟩
  cases r with
  | none => exact PySem.P.repr_of_none (fin _)
  | bool b => exact PySem.P.repr_of_bool (fin _)
  | int i t =>
    have hl : i.natAbs.log2 < 1920 := by simpa [PyData.showable] using hs
    exact PySem.P.repr_of_int hl (fin _)
  | str x t => exact PySem.P.repr_of_str (fin _) hz
  | list a1 a2 a3 a4 => exact repr_of_reads' (.list a1 a2 a3 a4) hs nd G.gd (by omega) (fun _ _ e => e) (fun h' u tk hk => ⟨.str _, H, I.kept hk, ⟨_, rfl⟩, q⟩) hz
  | tuple a1 a2 a3 a4 => exact repr_of_reads' (.tuple a1 a2 a3 a4) hs nd G.gd (by omega) (fun _ _ e => e) (fun h' u tk hk => ⟨.str _, H, I.kept hk, ⟨_, rfl⟩, q⟩) hz
  | dict a1 a2 a3 a4 a5 => exact repr_of_reads' (.dict a1 a2 a3 a4 a5) hs nd G.gd (by omega) (fun _ _ e => e) (fun h' u tk hk => ⟨.str _, H, I.kept hk, ⟨_, rfl⟩, q⟩) hz
def okR (d : PyData) : Prop := d.showable = true ∧ d.depth ≤ 100 ∧ d.shown.length ≤ sizeLine
open Classical in
@[simp] noncomputable def pRepr : List SV → Sto → Option SV
  | [x], S => (res x S).bind fun d => if okR d then some (.d (.str d.shown)) else none
  | _, _ => none
theorem cak_repr : CaK X (rRepr X) pRepr := by
  intro f S H vs xs z Q hS rx hp hq
  unfold pRepr at hp
  split at hp
  · rename_i x
    cases e : res x S with
    | none => rw [e] at hp; cases hp
    | some d =>
    rw [e] at hp
    dsimp only [Option.bind_some] at hp
    split at hp
    · rename_i h
      cases hp
      cases rx with
      | cons r1 r2 =>
      cases r2
      exact ⟨_, d, rfl, res_rs hS r1 e, h.1, h.2.1, h.2.2, hq _ H hS (Kp.refl _ _) (Is.str _)⟩
    · cases hp
  · cases hp
end
end Z
set_option maxRecDepth 100000
set_option maxHeartbeats 1000000
namespace Z
open PySem PySem.Spec PyProof.Rows L2

/-! ## isinstance with a built-in class -/
@[simp] def tyN : PyData → String
  | .none => "NoneType"
  | .bool _ => "bool"
  | .int _ => "int"
  | .str _ => "str"
  | .list _ => "list"
  | .tuple _ => "tuple"
  | .dict _ => "dict"
@[simp] def isN (t n : String) : Bool := t == n || (t == "bool" && n == "int")
@[simp] def tySV : SV → Sto → Option String
  | .d x, _ => some (tyN x)
  | .r i, S => match S[i]? with
    | some (.lst _) => some "list"
    | some (.dct _) => some "dict"
    | _ => none
  | .s _, _ => none
  | .k _ _ _ _, _ => none
  | .t _ _ _ _ _, _ => none
theorem tySV_is {K : PySem.W.Frag} {f : Ow} {S : Sto} {H : Hp} {v : V} {x : SV} {t : String} (hS : StoR K f S H) (r : SvR K f H v x) (e : tySV x S = some t) : TyX K H v (.type t) := by
  cases x with
  | d x =>
    cases e
    cases r with
    | non => exact .base .non
    | bl b => exact .base (.bl b)
    | int i => exact .base (.int i)
    | str x => exact .base (.str x)
    | lst h1 h2 => exact .base (.lst h1.1)
    | tup h1 h2 =>
      rcases h1 with ⟨h1 | ⟨o, h1⟩, _⟩ | ⟨o, its, n, h1, h2, _⟩
      · exact .base (.tup h1)
      · exact .fTuple h1
      · exact .kTuple h1 h2
    | dic h1 h2 h3 =>
      rcases h1 with h1 | ⟨o, h1⟩
      · exact .base (.dK h1)
      · exact .fDict h1
  | r i =>
    obtain ⟨a, ea, rfl⟩ := r
    simp only [tySV] at e
    split at e
    · rename_i ds e1
      cases e
      obtain ⟨vs, h1, h2⟩ := hS.at_ _ _ a e1 ea
      exact .base (.lst h1)
    · rename_i ds e1
      cases e
      obtain ⟨vs, h1, h2⟩ := hS.at_ _ _ a e1 ea
      exact .base (.dK h1)
    · cases e
  | s ns => cases e
  | k a x c d => cases e
  | t a1 a2 a3 a4 a5 => cases e
@[simp] def eIsi (n : String) (a : Ex) (σ : Sg) (S : Sto) : Option (Res SV) := Res.bnd (a σ S) fun x S1 => (tySV x S1).map fun t => .ok (.d (.bool (isN t n))) S1
/-- the built-in classes that are asked for here -/
def asked (n : String) : Prop := n = "int" ∨ n = "bool" ∨ n = "str" ∨ n = "list" ∨ n = "tuple" ∨ n = "dict"
theorem kit_tab : ∀ t ∈ ["NoneType", "bool", "int", "str", "list", "tuple", "dict"], ∀ n ∈ ["int", "bool", "str", "list", "tuple", "dict"], kitB t n = some (isN t n) := by decide +kernel
theorem kit_all {K : PySem.W.Frag} {n : String} (hn : asked n) (d : PyData) : PySem.W.kitOne K (.type (tyN d)) (.type n) = some (isN (tyN d) n) := by
  have h2 : n ∈ ["int", "bool", "str", "list", "tuple", "dict"] := by rcases hn with rfl | rfl | rfl | rfl | rfl | rfl <;> simp
  have h1 : tyN d ∈ ["NoneType", "bool", "int", "str", "list", "tuple", "dict"] := by cases d <;> simp [tyN]
  exact kit_ty (kit_tab _ h1 _ h2)
theorem kit_sv {K : PySem.W.Frag} {n t : String} {x : SV} {S : Sto} (hn : asked n) (e : tySV x S = some t) : PySem.W.kitOne K (.type t) (.type n) = some (isN t n) := by
  cases x with
  | d x => cases e; exact kit_all hn x
  | r i =>
    simp only [tySV] at e
    split at e
    · cases e; exact kit_all hn (.list [])
    · cases e; exact kit_all hn (.dict [])
    · cases e
  | s ns => cases e
  | k a x c d => cases e
  | t a1 a2 a3 a4 a5 => cases e
section
variable {X : Cx} {W : WX} {a b c o : Expr} {es : List Expr} {ea eb ec eo : Ex} {fs : Exs} {pos p0 p1 apos : Pos}
theorem de_isi {n : String} {x : Str} (hn : asked n) (hm : X.mg "isinstance" = none) (hmT : X.mg x = none) (hv : bootBuiltins x = some (.type n)) (ha : DE X W a ea) (hg : Gl X "isinstance" := by rfl) (hgT : Gl X x := by rfl)
    (hn1 : x ≠ "__name__" := by decide) (hd1 : (x == ("__debug__" : Str)) = false := by decide)
    (he : starEach [a, .Name x p1] X.env = (false, eval a X.env) :: starEach [.Name x p1] X.env := by rfl) (he2 : starEach [.Name x p1] X.env = (false, eval (.Name x p1) X.env) :: starEach [] X.env := by rfl)
    (hpl : (backTo pos (starEach [.Name x p1] X.env)).any (·.1) = false := by rfl) : DE X W (.Call (.Name "isinstance" p0) [a, .Name x p1] [] pos) (eIsi n ea) :=
  pe_imp (pe_callB call_isi hg hm PyProof.Rows.boot_isinstance (pa_cons ha (pa_cons (pe_bltn hgT hmT hv (v := .ty n) rfl hn1 hd1) pa_nil he2) he) (he := he) (hpl := hpl)) fun σV H Q ⟨f, σ, S, r, hE, hS, hr, hq⟩ => by
    refine TX.first hE hS hr (exc_way hq) fun y S1 vy H1 _ h1 s1 k1 e1 r1 => ?_
    cases e : tySV y S1 with
    | none => rw [e] at h1; cases h1
    | some t =>
      rw [e] at h1
      cases h1
      exact ⟨vy, .ty n, .type t, .type n, isN t n, rfl, .ty n, tySV_is s1 r1 e, kit_sv hn e, hq _ H1 s1 k1 (Is.bl _)⟩

/-! ## append, a store by place -/
@[simp] def eApp (eo ea : Ex) (σ : Sg) (S : Sto) : Option (Res SV) := Res.bnd (eo σ S) fun x S1 => match x with
  | .r i => match S1[i]? with
    | some (.lst _) => Res.bnd (ea σ S1) fun y S2 => match y with
      | .d d => match S2[i]? with
        | some (.lst ds) => if ds.length < sizeLine then some (.ok (.d .none) (S2.set i (.lst (ds ++ [d])))) else none
        | _ => none
      | _ => none
    | _ => none
  | _ => none
theorem de_append (ho : DE X W o eo) (ha : DE X W a ea) (hbase : attributeBase o "append" X.env (eval o X.env) = eval o X.env := by rfl)
    (hfew : ((backTo pos (starEach [a] X.env)).all (fun x => !x.1) && (backToKw pos (keywordEach [] X.env)).all (fun x => x.1.isSome)
      && decide ([a].length + ([] : List Keyword).length + (if ([] : List Keyword).isEmpty then 0 else 1) < 30)) = true := by rfl)
    (hline : (apos.endLine == pos.line) = true := by rfl) (hs : starEach [a] X.env = (false, eval a X.env) :: starEach [] X.env := by rfl) (hplain : (backTo pos (starEach [] X.env)).any (·.1) = false := by rfl) :
    DE X W (.Call (.Attribute o "append" apos) [a] [] pos) (eApp eo ea) :=
  pe_imp (pe_bm PySem.F.plainAttrs_list PySem.F.slot_list_append PySem.F.type_list_append mt_append ho (pa_cons ha pa_nil hs) hbase hfew hline hs hplain) fun σV H Q ⟨f, σ, S, r, hE, hS, hr, hq⟩ => by
    have hx := exc_way hq
    refine TX.first hE hS hr hx fun x S1 vx H1 g1 h1 s1 k1 e1 r1 => ?_
    cases x with
    | d x => cases h1
    | s ns => cases h1
    | k a x c d => cases h1
    | t a1 a2 a3 a4 a5 => cases h1
    | r i =>
    obtain ⟨p, ep, rfl⟩ := r1
    dsimp only at h1
    split at h1
    case h_2 => cases h1
    rename_i ds0 es0
    obtain ⟨vs0, hv0, _⟩ := s1.at_ i _ p es0 ep
    refine ⟨.inl ⟨rfl, vs0, .inl (.inl hv0)⟩, ?_⟩
    refine TX.first e1 s1 h1 (fun y S' e => (hx y S' e).kp k1) fun y S2 vy H2 _ h2 s2 k2 e2 r2 => ?_
    cases y with
    | r j => cases h2
    | s ns => cases h2
    | k a x c d => cases h2
    | t a1 a2 a3 a4 a5 => cases h2
    | d d =>
    dsimp only at h2
    split at h2
    · rename_i ds e3
      split at h2
      · rename_i hz
        cases h2
        obtain ⟨vs, hv, iv⟩ := s2.at_ i _ p e3 ep
        refine ⟨p, vs, vy, rfl, rfl, hv, by rw [iv.len]; exact hz, ?_⟩
        have kk : Kp f H2 (upd H2 p (.lst (vs ++ [vy]))) := Kp.put ep
        exact hq _ _ (s2.put ep ⟨_, upd_same, (iv.keep kk.q (Gr.refl _ _)).app (.cons (Is.keep kk.q (Gr.refl _ _) r2) .nil)⟩) ((k1.trans k2).trans kk) Is.non
      · cases h2
    · cases h2
/-- x[i] = v, x a list of the store -/
@[simp] def sSetIx (ev eo ei : Ex) (σ : Sg) (S : Sto) : Option Flow := Sm.bnd (ev σ S) fun v S1 => Sm.bnd (eo σ S1) fun o S2 => Sm.bnd (ei σ S2) fun i S3 => match v, o, i with
  | .d d, .r j, .d (.int k) => match S3[j]? with
    | some (.lst ds) => (ixN ds.length k).map fun n => .nx σ (S3.set j (.lst (ds.set n d)))
    | _ => none
  | _, _, _ => none
theorem ds_setIx {i : Expr} {ei ev : Ex} {tpos : Pos} {e : Expr} (he : DE X W e ev) (ho : DE X W o eo) (hi : DE X W i ei)
    (h0 : ∀ v, assign (.Subscript o i tpos) X.env v = (do
      let ov ← holding [v] (eval o X.env)
      let iv ← holding [v, ov] (eval i X.env)
      standAt tpos
      holding [v, ov, iv] (setItem ov iv v)
      release [v, ov, iv] []) := by intro _; rfl)
    (hs : swapsWithSole [.Subscript o i tpos] e pos.line X.env = pure false := by rfl) (hw : swappedStores [.Subscript o i tpos] e X.env = pure none := by rfl)
    (h1 : (assignEach [.Subscript o i tpos] X.env).map (·.2) = [assign (.Subscript o i tpos) X.env] := by rfl) : DS X W (.Assign [.Subscript o i tpos] e pos) (sSetIx ev eo ei) :=
  ps_imp (ps_asg he (pg_sub ho hi set_list h0) hs hw h1) fun D σV H ⟨f, σ, S, r, hE, hS, hr, hf⟩ => by
    refine TX.stm hE hS hr hf fun v S1 u H1 h1 f1 s1 k1 e1 r1 => ?_
    refine TX.stm e1 s1 h1 f1 fun x S2 vo H2 h2 f2 s2 k2 e2 r2 => ?_
    refine TX.stm e2 s2 h2 f2 fun y S3 vi H3 h3 f3 s3 k3 e3 r3 => ?_
    split at h3
    · rename_i d j k
      split at h3
      · rename_i ds eS
        cases en : ixN ds.length k with
        | none => rw [en] at h3; cases h3
        | some n =>
        rw [en] at h3
        cases h3
        obtain ⟨p, ep, rfl⟩ := r2
        cases r3
        obtain ⟨vs, hv, iv⟩ := s3.at_ j _ p eS ep
        have kk : Kp f H3 (upd H3 p (.lst (vs.set n u))) := Kp.put ep
        have s4 : StoR X.K f (S3.set j (.lst (ds.set n d))) (upd H3 p (.lst (vs.set n u))) := s3.put ep ⟨_, upd_same, (iv.keep kk.q (Gr.refl _ _)).set n (Is.keep kk.q (Gr.refl _ _) ((SvR.kp (x := .d d) r1 k2).kp k3))⟩
        refine ⟨p, vs, k, n, rfl, rfl, hv, by rw [iv.len]; exact en, ?_⟩
        exact ReS.now (f3.kp s4 kk) s4 (e3.kp kk)
      · cases h3
    · cases h3

/-! ## what is walked -/
/-- a list or a tuple, whichever -/
def iSeq (K : PySem.W.Frag) (t : TE) : TI := fun σ H R => t σ H fun x H1 => ∃ a, x = .ref a ∧ ((∃ xs, SqL K H1 a xs ∧ R (Itl K a) H1) ∨ (∃ xs, SqT K H1 a xs ∧ R (Itt K a) H1))
theorem pi_seq {X : Cx} {tg l : Expr} {t : TE} (hl : PE X l t) : PI X tg l (iSeq X.K t) := by
  refine ⟨fun pins s σ H R I h => thn (hl.run pins s σ H _ I h) fun v s1 ⟨x, H1, I1, r1, a, ex, q1⟩ => ?_⟩
  subst ex
  cases r1
  have mine : ∀ b ∈ [s1.heap.objs.size], FpOk X pins H1 b := fun b hb => by
    have eb : b = s1.heap.objs.size := by simpa using hb
    rw [eb]
    exact I1.fpOk (Nat.le_refl _) (I1.hok.fresh (Nat.le_refl _))
  have kept : ∀ ob : Obj, Inv X pins σ H1 { s1 with heap := s1.heap.push ob } := fun ob => I1.kept (t' := s1.toks) fun b u e => Heap.get?_push_of_some _ e
  rcases q1 with ⟨xs, hq, q⟩ | ⟨xs, hq, q⟩
  · obtain ⟨its, rv, pl, hz⟩ := I1.list hq
    exact wpAny_pyIter_list pl.isList ⟨_, [s1.heap.objs.size], _, _, H1, rfl, kept _, turn_list a _, ⟨_, Heap.get?_push_size _ rfl, rfl, rfl⟩, mine, q⟩
  · obtain ⟨its, rv, pl, hz⟩ := I1.tuple hq
    exact wpAny_pyIter_tuple (show s1.heap.IsTuple a its.toArray from pl) ⟨_, [s1.heap.objs.size], _, _, H1, rfl, kept _, turn_tuple a _, ⟨_, Heap.get?_push_size _ rfl, rfl, rfl⟩, mine, q⟩
@[simp] def wSeqV (x : SV) (S : Sto) : Option Wk := match x with
  | .d (.list ds) => some ⟨ds, none⟩
  | .d (.tuple ds) => some ⟨ds, none⟩
  | .r i => match S[i]? with
    | some (.lst ds) => some ⟨ds, some (i, ds)⟩
    | _ => none
  | .s ns => some ⟨ns.map .int, none⟩
  | _ => none
@[simp] def wSeq (e : Ex) (σ : Sg) (S : Sto) : Option (Res Wk) := Res.bnd (e σ S) fun x S1 => (wSeqV x S1).map fun w => .ok w S1
theorem walks_lst {X : Cx} {f : Ow} {H : Hp} {a : Addr} {xs : List V} {ds : List PyData} {own : Option (Nat × List PyData)}
    (hl : ∀ (f' : Ow) (S : Sto) (H' : Hp), Kq f H H' → Gr f f' H → Pf f f' → StoR X.K f' S H' → gdOk own S → ∃ ys, SqL X.K H' a ys ∧ IsAll X.K f' H' ys ds) (hK : ∀ H' ys zs, SqL X.K H' a ys → SqL X.K H' a zs → True) : Walks X f H (Itl X.K a) ⟨ds, own⟩ := by
  refine ⟨fun i d f' S H' hd k g p s o => ?_, fun i f' S H' hi k g p s o => ?_⟩
  · obtain ⟨ys, h1, h2⟩ := hl f' S H' k g p s o
    obtain ⟨v, hv, iv⟩ := h2.get hd
    refine ⟨⟨ys, v, h1, hv⟩, fun x H'' ⟨e, hx⟩ => ?_⟩
    subst e
    have := hx ys h1
    rw [hv] at this
    cases this
    exact ⟨s, Kp.refl _ _, iv⟩
  · obtain ⟨ys, h1, h2⟩ := hl f' S H' k g p s o
    exact ⟨ys, h1, by rw [h2.len]; exact hi⟩
theorem walks_tup {X : Cx} {f : Ow} {H : Hp} {a : Addr} {xs : List V} {ds : List PyData} (h1 : LT X.K f H a xs) (h2 : IsAll X.K f H xs ds) : Walks X f H (Itt X.K a) ⟨ds, none⟩ := by
  refine ⟨fun i d f' S H' hd k g p s o => ?_, fun i f' S H' hi k g p s o => ?_⟩
  · obtain ⟨v, hv, iv⟩ := (h2.keep k g).get hd
    refine ⟨⟨xs, v, (h1.keep k g).sq, hv⟩, fun x H'' ⟨e, hx⟩ => ?_⟩
    subst e
    have := hx xs (h1.keep k g).sq
    rw [hv] at this
    cases this
    exact ⟨s, Kp.refl _ _, iv⟩
  · exact ⟨xs, (h1.keep k g).sq, by rw [h2.len]; exact hi⟩
theorem di_seq {tg l : Expr} {e : Ex} (hl : DE X W l e) : DI X W tg l (wSeq e) :=
  pi_imp (pi_seq hl) fun σV H R ⟨f, σ, S, r, hE, hS, hr, hq⟩ => by
    refine TX.first hE hS hr (fun x S' e => by subst e; exact hq) fun x S1 vx H1 _ h1 s1 k1 e1 r1 => ?_
    unfold wSeqV at h1
    split at h1
    · cases h1
      cases r1 with
      | @lst a xs ds g1 g2 =>
      exact ⟨a, rfl, .inl ⟨xs, g1.sq, hq _ H1 s1 k1 (walks_lst (xs := xs) (fun f' S H' k g p s o => ⟨xs, (g1.keep k g).sq, g2.keep k g⟩) fun _ _ _ _ _ => trivial)⟩⟩
    · cases h1
      cases r1 with
      | @tup a xs ds g1 g2 => exact ⟨a, rfl, .inr ⟨xs, g1.sq, hq _ H1 s1 k1 (walks_tup g1 g2)⟩⟩
    · rename_i i _
      split at h1
      · rename_i ds e0
        cases h1
        obtain ⟨a, ea, rfl⟩ := r1
        obtain ⟨vs, g1, g2⟩ := s1.at_ i _ a e0 ea
        refine ⟨a, rfl, .inl ⟨vs, .inl (.inl g1), hq _ H1 s1 k1 (walks_lst (xs := vs) (fun f' S H' k g p s o => ?_) fun _ _ _ _ _ => trivial)⟩⟩
        obtain ⟨ys, g3, g4⟩ := s.at_ i _ a (show S[i]? = some (.lst ds) from o) (p i a ea)
        exact ⟨ys, .inl (.inl g3), g4⟩
      · cases h1
    · rename_i ns _
      cases h1
      obtain ⟨a, rfl, g1⟩ := r1
      exact ⟨a, rfl, .inl ⟨_, g1.sq, hq _ H1 s1 k1 (walks_lst (xs := ns.map V.int) (fun f' S H' k g p s o => ⟨_, (g1.keep k g).sq, IsAll.of_ints ns⟩) fun _ _ _ _ _ => trivial)⟩⟩
    · cases h1
/-- range(j), range(i, j) -/
def upTo (lo : Int) (n : Nat) : List PyData := (List.range n).map fun (k : Nat) => .int (lo + (k : Int))
def small62 (i : Int) : Prop := -4611686018427387904 ≤ i ∧ i < 4611686018427387904
noncomputable instance (i : Int) : Decidable (small62 i) := Classical.propDecidable _
@[simp] noncomputable def wRng1 (e : Ex) (σ : Sg) (S : Sto) : Option (Res Wk) := Res.bnd (e σ S) fun x S1 => match x with
  | .d (.int j) => if small62 j then some (.ok ⟨upTo 0 j.toNat, none⟩ S1) else none
  | _ => none
@[simp] noncomputable def wRng2 (a b : Ex) (σ : Sg) (S : Sto) : Option (Res Wk) := Res.bnd (a σ S) fun x S1 => Res.bnd (b σ S1) fun y S2 => match x, y with
  | .d (.int i), .d (.int j) => if small62 i ∧ small62 j then some (.ok ⟨upTo i (j - i).toNat, none⟩ S2) else none
  | _, _ => none
theorem walks_rng {X : Cx} {f : Ow} {H : Hp} {lo : Int} {n : Nat} : Walks X f H (Itr lo n) ⟨upTo lo n, none⟩ := by
  refine ⟨fun i d f' S H' hd k g p s o => ?_, fun i f' S H' hi k g p s o => ?_⟩
  · have hi : i < n := by
      have := (List.getElem?_eq_some_iff.mp hd).1
      simpa [upTo] using this
    refine ⟨hi, fun x H'' ⟨e, hx⟩ => ?_⟩
    subst e hx
    have : d = .int (lo + (i : Int)) := by
      have h : (upTo lo n)[i]? = some d := hd
      unfold upTo at h
      rw [List.getElem?_map, List.getElem?_range hi] at h
      exact (Option.some.inj h).symm
    subst this
    exact ⟨s, Kp.refl _ _, Is.int _⟩
  · have hi : (upTo lo n).length ≤ i := hi
    have hi : n ≤ i := by simpa [upTo] using hi
    exact hi
theorem small62_pow {i : Int} (h : small62 i) : -(2 ^ 62) ≤ i ∧ i < 2 ^ 62 := by
  have e : (2 : Int) ^ 62 = 4611686018427387904 := by decide
  rw [e]
  exact h
theorem di_rng1 {tg : Expr} (hm : X.mg "range" = none) (ha : DE X W a ea) (hg : Gl X "range" := by rfl) (hs : starEach [a] X.env = [(false, eval a X.env)] := by rfl) : DI X W tg (.Call (.Name "range" p0) [a] [] pos) (wRng1 ea) :=
  pi_imp (pi_range1 hg hm (pa_cons ha pa_nil hs) hs) fun σV H R ⟨f, σ, S, r, hE, hS, hr, hq⟩ => by
    refine TX.first hE hS hr (fun x S' e => by subst e; exact hq) fun x S1 vx H1 _ h1 s1 k1 e1 r1 => ?_
    split at h1
    · split at h1
      · rename_i hz
        cases h1
        cases r1
        have := small62_pow hz
        exact ⟨_, rfl, this.1, this.2, hq _ H1 s1 k1 walks_rng⟩
      · cases h1
    · cases h1
theorem di_rng2 {tg : Expr} (hm : X.mg "range" = none) (ha : DE X W a ea) (hb : DE X W b eb) (hg : Gl X "range" := by rfl) (hs : starEach [a, b] X.env = [(false, eval a X.env), (false, eval b X.env)] := by rfl) (hs2 : starEach [b] X.env = [(false, eval b X.env)] := by rfl) : DI X W tg (.Call (.Name "range" p0) [a, b] [] pos) (wRng2 ea eb) :=
  pi_imp (pi_range2 hg hm (pa_cons ha (pa_cons hb pa_nil hs2) (by rw [hs, hs2])) hs hs2) fun σV H R ⟨f, σ, S, r, hE, hS, hr, hq⟩ => by
    have hx : ∀ x S', r = .exc x S' → XS X W f σV H x S' := fun x S' e => by subst e; exact hq
    refine TX.first hE hS hr hx fun x S1 vx H1 _ h1 s1 k1 e1 r1 => ?_
    refine TX.first e1 s1 h1 (fun y S' e => (hx y S' e).kp k1) fun y S2 vy H2 _ h2 s2 k2 e2 r2 => ?_
    split at h2
    · split at h2
      · rename_i hz
        cases h2
        cases r1
        cases r2
        have h3 := small62_pow hz.1
        have h4 := small62_pow hz.2
        exact ⟨_, _, rfl, ⟨h3.1, h3.2, h4.1, h4.2⟩, hq _ H2 s2 (k1.trans k2) walks_rng⟩
      · cases h2
    · cases h2
/-- zip of two lists, of two tuples -/
def zipD : List PyData → List PyData → List PyData
  | x :: xs, y :: ys => .tuple [x, y] :: zipD xs ys
  | _, _ => []
theorem zipD_len : ∀ (xs ys : List PyData), (zipD xs ys).length = min xs.length ys.length
  | [], _ => by simp [zipD]
  | _ :: _, [] => by simp [zipD]
  | x :: xs, y :: ys => by simp [zipD, zipD_len xs ys]
theorem zipD_get : ∀ {xs ys : List PyData} {i : Nat} {d : PyData}, (zipD xs ys)[i]? = some d → ∃ x y, xs[i]? = some x ∧ ys[i]? = some y ∧ d = .tuple [x, y]
  | [], _, _, _, h => by simp [zipD] at h
  | _ :: _, [], _, _, h => by simp [zipD] at h
  | x :: xs, y :: ys, 0, d, h => by simp [zipD] at h; exact ⟨x, y, rfl, rfl, h.symm⟩
  | x :: xs, y :: ys, i + 1, d, h => by
    have h : (zipD xs ys)[i]? = some d := by simpa [zipD] using h
    obtain ⟨a, b, h1, h2, h3⟩ := zipD_get h
    exact ⟨a, b, by simpa using h1, by simpa using h2, h3⟩
@[simp] def wZip (a b : Ex) (σ : Sg) (S : Sto) : Option (Res Wk) := Res.bnd (a σ S) fun x S1 => Res.bnd (b σ S1) fun y S2 => match x, y with
  | .d (.list xs), .d (.list ys) => some (.ok ⟨zipD xs ys, none⟩ S2)
  | .d (.tuple xs), .d (.tuple ys) => some (.ok ⟨zipD xs ys, none⟩ S2)
  | _, _ => none
theorem di_zip {elts : List Expr} {kk : Nat} {tpos : Pos} (hm : X.mg "zip" = none) (ha : DE X W a ea) (hb : DE X W b eb) (hg : Gl X "zip" := by rfl)
    (hs : starEach [a, b] X.env = (false, eval a X.env) :: starEach [b] X.env := by rfl) (hs2 : starEach [b] X.env = (false, eval b X.env) :: starEach [] X.env := by rfl) (hpl : (backTo pos (starEach [b] X.env)).any (·.1) = false := by rfl) : DI X W (.Tuple elts kk tpos) (.Call (.Name "zip" p0) [a, b] [] pos) (wZip ea eb) :=
  pi_imp (RZ.pi_zipA hg hm (pa_cons ha (pa_cons hb pa_nil hs2) hs) hs hpl) fun σV H R ⟨f, σ, S, r, hE, hS, hr, hq⟩ => by
    have hx : ∀ x S', r = .exc x S' → XS X W f σV H x S' := fun x S' e => by subst e; exact hq
    refine TX.first hE hS hr hx fun x S1 vx H1 _ h1 s1 k1 e1 r1 => ?_
    refine TX.first e1 s1 h1 (fun y S' e => (hx y S' e).kp k1) fun y S2 vy H2 _ h2 s2 k2 e2 r2 => ?_
    split at h2
    · cases h2
      have r1 := SvR.kp r1 k2
      cases r1 with
      | @lst a xs ds g1 g2 =>
      cases r2 with
      | @lst b ys es g3 g4 =>
      refine ⟨a, b, xs, ys, rfl, .inl ⟨g1.sq, g3.sq, hq _ H2 s2 (k1.trans k2) ⟨fun i d f' S H' hd k g p s o => ?_, fun i f' S H' hi k g p s o => ?_⟩⟩⟩
      · obtain ⟨d1, d2, e1, e2, rfl⟩ := zipD_get hd
        obtain ⟨v1, hv1, iv1⟩ := (g2.keep k g).get e1
        obtain ⟨v2, hv2, iv2⟩ := (g4.keep k g).get e2
        refine ⟨⟨xs, ys, v1, v2, (g1.keep k g).sq, (g3.keep k g).sq, hv1, hv2⟩, fun x H'' ⟨T, x1, x2, ex, nT, eH, f1, f2⟩ => ?_⟩
        subst ex eH
        have q1 := f1 xs (g1.keep k g).sq
        have q2 := f2 ys (g3.keep k g).sq
        rw [hv1] at q1
        rw [hv2] at q2
        cases q1
        cases q2
        exact ⟨s.laid nT, Kp.new nT, Is.tup (.inl ⟨.inl upd_same, s.free nT⟩) (.cons (Is.keep (Kp.new nT).q (Gr.refl _ _) iv1) (.cons (Is.keep (Kp.new nT).q (Gr.refl _ _) iv2) .nil))⟩
      · have hi : (zipD _ _).length ≤ i := hi
        rw [zipD_len] at hi
        exact ⟨xs, ys, (g1.keep k g).sq, (g3.keep k g).sq, by rw [g2.len, g4.len]; omega⟩
    · cases h2
      have r1 := SvR.kp r1 k2
      cases r1 with
      | @tup a xs ds g1 g2 =>
      cases r2 with
      | @tup b ys es g3 g4 =>
      refine ⟨a, b, xs, ys, rfl, .inr ⟨g1.sq, g3.sq, hq _ H2 s2 (k1.trans k2) ⟨fun i d f' S H' hd k g p s o => ?_, fun i f' S H' hi k g p s o => ?_⟩⟩⟩
      · obtain ⟨d1, d2, e1, e2, rfl⟩ := zipD_get hd
        obtain ⟨v1, hv1, iv1⟩ := (g2.keep k g).get e1
        obtain ⟨v2, hv2, iv2⟩ := (g4.keep k g).get e2
        refine ⟨⟨xs, ys, v1, v2, (g1.keep k g).sq, (g3.keep k g).sq, hv1, hv2⟩, fun x H'' ⟨T, x1, x2, ex, nT, eH, f1, f2⟩ => ?_⟩
        subst ex eH
        have q1 := f1 xs (g1.keep k g).sq
        have q2 := f2 ys (g3.keep k g).sq
        rw [hv1] at q1
        rw [hv2] at q2
        cases q1
        cases q2
        exact ⟨s.laid nT, Kp.new nT, Is.tup (.inl ⟨.inl upd_same, s.free nT⟩) (.cons (Is.keep (Kp.new nT).q (Gr.refl _ _) iv1) (.cons (Is.keep (Kp.new nT).q (Gr.refl _ _) iv2) .nil))⟩
      · have hi : (zipD _ _).length ≤ i := hi
        rw [zipD_len] at hi
        exact ⟨xs, ys, (g1.keep k g).sq, (g3.keep k g).sq, by rw [g2.len, g4.len]; omega⟩
    · cases h2
/-- t[lo:hi] of a tuple -/
def cutD (ds : List PyData) (lo hi : Option Int) : List PyData := (ds.drop (HT.sIx ds.length 0 lo)).take (HT.sIx ds.length ds.length hi - HT.sIx ds.length 0 lo)
theorem cut_is {K : PySem.W.Frag} {f : Ow} {H : Hp} {xs : List V} {ds : List PyData} (h : IsAll K f H xs ds) (lo hi : Option Int) : IsAll K f H (cutV xs lo hi) (cutD ds lo hi) := by
  unfold cutV cutD
  rw [h.len]
  exact (h.drop _).take _
end
end Z
set_option maxRecDepth 100000
set_option maxHeartbeats 1000000
namespace Z
open PySem PySem.Spec PyProof.Rows L2

/-! ## the law's own call -/
/-- the tables of code objects that a law starts with: a lambda's name, the code object of its maker, the table -/
abbrev Tbs := List (Str × Addr × Addr)
@[simp] def tabS (cs : Tbs) : Sto := cs.map fun p => .tab p.1 p.2.2
structure TbsOk (K : PySem.W.Frag) (cs : Tbs) (h : Heap) : Prop where
  at_ : ∀ p ∈ cs, h.get? p.2.2 = some { cls := .none, data := .fields #[] }
  no : ∀ p ∈ cs, K.lookup p.2.2 = none
  nd : (cs.map (·.2.2)).Nodup
  hd : ∀ p ∈ cs, PySem.W.CodeHd h p.2.1 p.2.2
section
variable {P : Program} {w : World} {K : PySem.W.Frag} {mg mb : Str → Option Value} {k : Nat} {fa a : Addr} {g : Fn} {s₁ : Shared} {vs : List Value} {ns : List Int} {cs : Tbs}
theorem law_at (hK : K.In s₁.heap) (hN : s₁.heap.Ns mainGlobals mg) (hB : s₁.heap.Ns builtinsNs mb) (hBB : ∀ x : Str, x ≠ "__name__" → mb x = bootBuiltins x) (hL : s₁.heap.NoLimit) (hG : s₁.gens = #[]) (hM : ∃ mm, s₁.heap.Ns sysModules mm) (hKM : K.lookup sysModules = none)
    (hT : TbsOk K cs s₁.heap)
    (hbm : ∃ (bm : Addr) (ob : Obj), mg "__builtins__" = some (.ref bm) ∧ bm ≠ builtinsNs ∧ s₁.heap.get? bm = some ob ∧ ob.cls = .type "module" ∧ ob.dict = some builtinsNs ∧ ob.data = .plain)
    (hobj : s₁.heap.get? a = some { cls := .type "list", data := .seq vs.toArray }) (hi : IntsAre vs ns) (hz : ns.length ≤ sizeLine) (hr : Room k callerA) (hfa : mg "law" = some (.ref fa))
    (F : ∀ base : Heap, K.In base → base.Ns mainGlobals mg → (∀ p ∈ cs, LamX.TabB base mg p.2.1 p.2.2) → FnG P w K mg base k "law" g) (hg : g [.s ns] (tabS cs) = some (.ok (.d (.bool true)) (tabS cs))) :
    codeAny (model P w) callerA (.call (.ref fa) ⟨[.ref a], []⟩) (fun r s' => r = .ok (.ret (.bool true)) ∧ OldK s₁.heap s'.heap ∧ s'.os = s₁.os ∧ AllBare s'.gens) s₁ := by
  have lenV : vs.length = ns.length := by
    have : ∀ {us : List Value} {ms : List Int}, IntsAre us ms → us.length = ms.length := by
      intro us ms h
      induction h with
      | nil => rfl
      | cons _ _ _ ih => simp [ih]
    exact this hi
  have relV : Vals (ns.map V.int) vs := by
    have : ∀ {us : List Value} {ms : List Int}, IntsAre us ms → Vals (ms.map V.int) us := by
      intro us ms h
      induction h with
      | nil => exact .nil
      | cons n t _ ih => exact .cons ⟨t, rfl⟩ ih
    exact this hi
  obtain ⟨mm, om, esm, epm, hom, hdm, _⟩ := hM
  have isT : ∀ b : Addr, b ∈ cs.map (·.2.2) → s₁.heap.get? b = some { cls := .none, data := .fields #[] } := fun b hb => by
    obtain ⟨p, hp, e⟩ := List.mem_map.mp hb
    rw [← e]
    exact hT.at_ p hp
  have memT : ∀ p ∈ cs, p.2.2 ∈ cs.map (·.2.2) := fun p hp => List.mem_map.mpr ⟨p, hp, rfl⟩
  have aT : a ∉ cs.map (·.2.2) := fun z => by
    have q := isT a z
    rw [hobj] at q
    have z' : Data.seq vs.toArray _ = Data.fields #[] := congrArg Obj.data (Option.some.inj q)
    cases z'
  have mT : sysModules ∉ cs.map (·.2.2) := fun z => by
    have q := isT _ z
    rw [hom] at q
    have z' : om.data = Data.fields #[] := congrArg Obj.data (Option.some.inj q)
    rw [hdm] at z'
    cases z'
  have aM : a ≠ sysModules := fun z => by
    rw [← z, hobj] at hom
    have z' : Data.seq vs.toArray _ = om.data := congrArg Obj.data (Option.some.inj hom)
    rw [hdm] at z'
    cases z'
  -- what is tracked: the modules' dict, the tables, the script (unless it is the module's own)
  have main : ∀ H : Hp, (∀ p ∈ cs, H p.2.2 = some (.tbl #[])) → H sysModules = some (.frz om (.ext fun _ => True)) → (∀ b, H b = none ∨ b ∈ cs.map (·.2.2) ∨ ∃ o u, H b = some (.frz o u)) → (∀ b, H b ≠ none → b = a ∨ b = sysModules ∨ b ∈ cs.map (·.2.2)) → HOk P w H s₁.heap → LS K ⟨cs.map (·.2.2), []⟩ H a (ns.map V.int) → (H a ≠ none → K.lookup a = none) →
      codeAny (model P w) callerA (.call (.ref fa) ⟨[.ref a], []⟩) (fun r s' => r = .ok (.ret (.bool true)) ∧ OldK s₁.heap s'.heap ∧ s'.os = s₁.os ∧ AllBare s'.gens) s₁ := by
    intro H hHT hHM hO hA hok hls hKa
    have base_of : ∀ {b : Addr} {o : Obj}, s₁.heap.get? b = some o → H b = none → (hidT s₁.heap H).get? b = some o := fun e n => hidT_get e n
    have noD : ∀ {b : Addr} {o : Obj}, s₁.heap.get? b = some o → b ≠ sysModules → (∀ vs n, o.data ≠ .seq vs n) → o.data ≠ .fields #[] → H b = none := fun {b o} e hb h1 h2 => by
      cases q : H b with
      | none => rfl
      | some u =>
        rcases hA b (by rw [q]; simp) with e' | e' | e'
        · rw [e', hobj] at e
          cases e
          exact (h1 _ _ rfl).elim
        · exact absurd e' hb
        · rw [isT b e'] at e
          cases e
          exact (h2 rfl).elim
    have noA : ∀ {b : Addr} {o : Obj} {es : Array DictEntry} {ep : Nat}, b ≠ sysModules → s₁.heap.get? b = some o → o.data = .dict es ep → H b = none := fun {b o es ep} hb e d => by
      refine noD e hb (fun vs n z => ?_) fun z => ?_
      · rw [d] at z
        cases z
      · rw [d] at z
        cases z
    have nsK : ∀ {b : Addr} {m : Str → Option Value}, b ≠ sysModules → s₁.heap.Ns b m → (hidT s₁.heap H).Ns b m := fun {b m} hb ⟨o, es, ep, e, d, r⟩ => ⟨o, es, ep, base_of e (noA hb e d), d, r⟩
    have inK : K.In (hidT s₁.heap H) := fun b o e => base_of (hK b o e) (by
      cases q : H b with
      | none => rfl
      | some u =>
        rcases hA b (by rw [q]; simp) with e' | e' | e'
        · rw [e'] at e q
          rw [hKa (by rw [q]; simp)] at e
          cases e
        · rw [e', hKM] at e
          cases e
        · obtain ⟨p, hp, ep⟩ := List.mem_map.mp e'
          rw [← ep, hT.no p hp] at e
          cases e)
    have hN2 : (hidT s₁.heap H).Ns mainGlobals mg := nsK (by decide) hN
    have lim : (hidT s₁.heap H).NoLimit := let ⟨mc, q1, q2⟩ := hL; ⟨mc, nsK (by decide) q1, q2⟩
    have TB : ∀ p ∈ cs, LamX.TabB (hidT s₁.heap H) mg p.2.1 p.2.2 := fun p hp => by
      have hTp := hT.at_ p hp
      refine ⟨?_, ?_, fun z => ?_⟩
      · obtain ⟨o, us, file, tf, flags, tg, inF, text, tt, e1, r1, r2, r3, r4, r5, r6, r7, r8, hne⟩ := hT.hd p hp
        refine ⟨o, us, file, tf, flags, tg, inF, text, tt, base_of e1 (noD e1 (fun z => ?_) (fun vs n z => ?_) fun z => ?_), r1, r2, r3, r4, r5, r6, r7, r8, hne⟩
        · rw [z, hom] at e1
          cases e1
          rw [hdm] at r2
          cases r2
        · rw [r2] at z
          cases z
        · rw [r2] at z
          cases z
          simp at r3
      · obtain ⟨bm, ob, b1, b2, b3, b4, b5, b6⟩ := hbm
        have nG : bm ≠ mainGlobals := fun q => by
          obtain ⟨o, es, ep, e, hd, _⟩ := hN
          rw [q, e] at b3
          cases b3
          rw [hd] at b6
          cases b6
        have nP : bm ≠ p.2.2 := fun q => by
          rw [q, hTp] at b3
          cases b3
          cases b6
        refine ⟨bm, ob, b1, b2, nG, nP, base_of b3 (noD b3 (fun z => ?_) (fun vs n z => ?_) fun z => ?_), b4, b5, b6⟩
        · rw [z, hom] at b3
          cases b3
          rw [hdm] at b6
          cases b6
        · rw [b6] at z
          cases z
        · rw [b6] at z
          cases z
      · obtain ⟨o, es, ep, e, hd, _⟩ := hN
        rw [z, hTp] at e
        cases e
        cases hd
    obtain ⟨f', hm, hk, run⟩ := (F _ inK hN2 TB).ex
    rw [hfa] at hm
    cases hm
    have env : Env0 P w K mg (hidT s₁.heap H) callerA [] s₁ H :=
      { frames := rfl, mod := { kin := inK, glob := hN2, blt := ⟨mb, nsK (by decide) hB, hBB⟩, nolimit := lim }, bs := fun b o e => of_hidT e, bsz := Nat.le_of_eq (hidT_size _ _), funs := trivial, frf := (fun b hb => (nomatch hb)), hok := hok, bare := .of_eq hG }
    have sto : StoR K ⟨cs.map (·.2.2), []⟩ (tabS cs) H := by
      refine ⟨by simp, hT.nd, fun i o b e1 e2 => ?_, (fun b m => nomatch m), (fun b m => nomatch m), mT, _, hHM⟩
      simp only [tabS] at e1
      have e2 : (cs.map (·.2.2))[i]? = some b := e2
      rw [List.getElem?_map] at e1 e2
      cases ec : cs[i]? with
      | none => rw [ec] at e1; cases e1
      | some p =>
        rw [ec] at e1 e2
        cases e1
        cases e2
        exact ⟨rfl, #[], hHT p (List.mem_of_getElem? ec), by simp [TriplesOk], fun pos cv z => by simp [codeAmong] at z⟩
    have pre : SpG K mg g [.ref a] H (fun v _ => v = .bl true) (fun _ _ _ => False) :=
      ⟨⟨cs.map (·.2.2), []⟩, tabS cs, [.s ns], _, sto, .cons ⟨a, rfl, hls⟩ .nil, hg, fun v H' _ _ r => by cases r; rfl⟩
    refine codeAny_mono (run callerA [] s₁ H [.ref a] [.ref a] _ _ hr rfl env (.cons rfl .nil) pre) fun r s' h => ?_
    rcases r with e | fl
    case ok =>
      cases fl with
      | ret u =>
        obtain ⟨v, H', os, bare, un, hok', rv, q⟩ := h
        have q : v = .bl true := q
        subst q
        cases rv
        have key : ∀ b o, b ∉ cs.map (·.2.2) → s₁.heap.get? b = some o → s'.heap.get? b = some o := fun b o nb e => by
          cases q : H b with
          | none => exact un.keep b o e q (by intro z; exact absurd (show b ∈ ([] : List Addr) from z) (by simp)) (by simp)
          | some u =>
            rcases hO b with z | z | ⟨ob, xs, z⟩
            · rw [q] at z; cases z
            · exact absurd z nb
            · have z2 := un.frzs b ob _ z
              obtain ⟨e1, _⟩ := hok b _ z
              obtain ⟨e2, _⟩ := hok' b _ z2
              rw [e] at e1; cases e1
              exact e2
        have grown : ∀ p ∈ cs, ∃ more : Array Value, s'.heap.get? p.2.2 = some { cls := .none, data := .fields more } := fun p hp => by
          obtain ⟨more, z⟩ := un.tbls p.2.2 #[] (hHT p hp)
          exact ⟨_, hok' p.2.2 _ z⟩
        refine ⟨rfl, ⟨fun b o e => ?_, fun b o e => ?_⟩, os, bare⟩
        · by_cases hb : b ∈ cs.map (·.2.2)
          · obtain ⟨p, hp, ep⟩ := List.mem_map.mp hb
            obtain ⟨more, hm⟩ := grown p hp
            rw [← ep] at e ⊢
            rw [hT.at_ p hp] at e
            cases e
            exact .inr (.inl ⟨((hT.hd p hp).tab (hT.at_ p hp)).isCodeTable, rfl, #[], more, rfl, by rw [Array.empty_append]; exact hm⟩)
          · exact .inl (key b o hb e)
        · by_cases hb : b ∈ cs.map (·.2.2)
          · obtain ⟨p, hp, ep⟩ := List.mem_map.mp hb
            obtain ⟨more, hm⟩ := grown p hp
            rw [← ep]
            exact ⟨_, hm⟩
          · exact ⟨o, key b o hb e⟩
      | next => exact h.elim
      | brk => exact h.elim
      | cont => exact h.elim
    case error =>
      obtain ⟨_, _, _, _, _, _, _, _, _, _, _, _, z⟩ := h
      exact z.elim
  cases eK : K.lookup a with
  | some o =>
    have e := hK a o eK
    rw [hobj] at e
    cases e
    refine main (fun b => if b = sysModules then some (.frz om (.ext fun _ => True)) else if b ∈ cs.map (·.2.2) then some (.tbl #[]) else none) (fun p hp => (if_neg (fun z => mT (by rw [← z]; exact memT p hp))).trans (if_pos (memT p hp))) (if_pos rfl) (fun b => ?_) (fun b z => ?_) (fun b u z => ?_) (.inr ⟨_, vs.toArray, _, eK, rfl, rfl, rfl, by rw [List.size_toArray, lenV]; exact hz, by simpa using relV⟩)
      fun z => absurd ((if_neg aM).trans (if_neg aT)) z
    · by_cases hb : b = sysModules
      · exact .inr (.inr ⟨_, _, if_pos hb⟩)
      · by_cases hb2 : b ∈ cs.map (·.2.2)
        · exact .inr (.inl hb2)
        · exact .inl ((if_neg hb).trans (if_neg hb2))
    · by_cases hb : b = sysModules
      · exact .inr (.inl hb)
      · by_cases hb2 : b ∈ cs.map (·.2.2)
        · exact .inr (.inr hb2)
        · exact absurd ((if_neg hb).trans (if_neg hb2)) z
    · by_cases hb : b = sysModules
      · have z' := (if_pos hb).symm.trans z
        cases z'
        rw [hb]
        exact ⟨hom, trivial, ⟨_, hom⟩, fun _ _ _ _ => trivial⟩
      · have z1 := (if_neg hb).symm.trans z
        by_cases hb2 : b ∈ cs.map (·.2.2)
        · have z' := (if_pos hb2).symm.trans z1
          cases z'
          exact isT b hb2
        · have z' := (if_neg hb2).symm.trans z1
          cases z'
  | none =>
    refine main (fun b => if b = a then some (.frz { cls := .type "list", data := .seq vs.toArray } (.lst (ns.map V.int))) else if b = sysModules then some (.frz om (.ext fun _ => True)) else if b ∈ cs.map (·.2.2) then some (.tbl #[]) else none)
      (fun p hp => (if_neg (fun z => aT (by rw [← z]; exact memT p hp))).trans ((if_neg (fun z => mT (by rw [← z]; exact memT p hp))).trans (if_pos (memT p hp)))) ((if_neg (Ne.symm aM)).trans (if_pos rfl)) (fun b => ?_) (fun b z => ?_) (fun b u z => ?_)
      (.inl ⟨.inr ⟨{ cls := .type "list", data := .seq vs.toArray }, if_pos rfl⟩, ⟨aT, fun m => nomatch m⟩⟩) fun _ => eK
    · by_cases ha : b = a
      · exact .inr (.inr ⟨_, _, if_pos ha⟩)
      · by_cases hb : b = sysModules
        · exact .inr (.inr ⟨_, _, (if_neg ha).trans (if_pos hb)⟩)
        · by_cases hb2 : b ∈ cs.map (·.2.2)
          · exact .inr (.inl hb2)
          · exact .inl ((if_neg ha).trans ((if_neg hb).trans (if_neg hb2)))
    · by_cases ha : b = a
      · exact .inl ha
      · by_cases hb : b = sysModules
        · exact .inr (.inl hb)
        · by_cases hb2 : b ∈ cs.map (·.2.2)
          · exact .inr (.inr hb2)
          · exact absurd ((if_neg ha).trans ((if_neg hb).trans (if_neg hb2))) z
    · by_cases ha : b = a
      · have z' := (if_pos ha).symm.trans z
        cases z'
        rw [ha]
        exact ⟨hobj, by rw [List.length_map]; exact hz, vs, _, relV, hobj⟩
      have z := (if_neg ha).symm.trans z
      by_cases hb : b = sysModules
      · have z' := (if_pos hb).symm.trans z
        cases z'
        rw [hb]
        exact ⟨hom, trivial, ⟨_, hom⟩, fun _ _ _ _ => trivial⟩
      · have z1 := (if_neg hb).symm.trans z
        by_cases hb2 : b ∈ cs.map (·.2.2)
        · have z' := (if_pos hb2).symm.trans z1
          cases z'
          exact isT b hb2
        · have z' := (if_neg hb2).symm.trans z1
          cases z'
end
/-- the tables of the program's defs are empty at the start -/
def TabsOf (q : Program) (mg : Str → Option Value) (h : Heap) : Prop := ∀ (x : Str) (a : Addr), ((recsOf q).any fun e => e.name == x) = true → mg x = some (.ref a) →
  ∃ o fd c P, h.get? a = some o ∧ o.data = .func fd ∧ fd.code = .ref c ∧ h.IsCode c P #[] ∧ h.TableAt c P #[]
/-- .. so for the def x that stands in K -/
theorem TabsOf.at {q : Program} {K : PySem.W.Frag} {mg : Str → Option Value} {h : Heap} {x : Str} {a c P : Addr} {o : Obj} {fd : FuncData} (T : TabsOf q mg h) (KX : K.In h) (hx : ((recsOf q).any fun e => e.name == x) = true) (hm : mg x = some (.ref a))
    (lk : K.lookup a = some o) (hd : o.data = .func fd) (hc : fd.code = .ref c) (hh : PySem.W.codeHdIn K c P = true) : h.get? P = some { cls := .none, data := .fields #[] } ∧ PySem.W.CodeHd h c P := by
  obtain ⟨o1, fd1, c1, P1, e1, e2, e3, e4, ⟨oc, vs, f1, f2, f3, f4⟩, f5⟩ := T x a hx hm
  have g1 := KX _ _ lk
  rw [g1] at e1
  cases e1
  rw [hd] at e2
  cases e2
  rw [hc] at e3
  cases e3
  have C := PySem.W.codeHd_of_K KX hh
  obtain ⟨o', us, file, tf, flags, tg, inF, text, tt, r0, r1, r2, r3, _⟩ := id C
  rw [r0] at f1
  cases f1
  rw [r2] at f3
  cases f3
  rw [r3] at f4
  cases f4
  exact ⟨f5, C⟩
theorem walk_g {l : PySem.W.OpenLaw} {n k : Nat} {q : Program} {loose : List Str} {XP : (Str → Option Value) → Heap → Prop} {YP : World → Heap → Prop} {d : DefRec} {K : Params → PySem.W.Frag}
    (hn : l.most = some n) (hn2 : n ≤ sizeLine) (hdf : d.params.defaults = []) (hdn : d.name = "law") (hr : Room k callerA) (hY : ∀ (w : World) (h : Heap), YP w h → (K w.params).In h) (hq : importsNone q = true) (hKM : ∀ w : World, (K w.params).lookup sysModules = none)
    (F : ∀ (w : World) (mg : Str → Option Value) (fa : Addr) (h : Heap), (K w.params).In h → h.Ns mainGlobals mg → mg d.name = some (.ref fa) → TabsOf q mg h →
      ∃ (cs : Tbs) (g : Fn), TbsOk (K w.params) cs h ∧ (∀ ns : List Int, ns.length ≤ n → g [.s ns] (tabS cs) = some (.ok (.d (.bool true)) (tabS cs))) ∧
        ∀ base : Heap, (K w.params).In base → base.Ns mainGlobals mg → (∀ p ∈ cs, LamX.TabB base mg p.2.1 p.2.2) → FnG l.prog w (K w.params) mg base k "law" g) :
    PySem.W.WalkO q loose XP YP l.row.toRowW d [] (fun f vs => PySem.call f vs) :=
  Att.attach_call hn hdf fun w s₀ s₁ mg mb fa o pm cd doc a vs ns G Y ho hd hcd hmg hobj hints hlen hgens => by
    have T : TabsOf q mg s₁.heap := fun x b hx hm => by
      obtain ⟨dL, hm1, hn1⟩ := List.any_eq_true.mp hx
      have hn2 : dL.name = x := beq_iff_eq.mp hn1
      obtain ⟨a', o', fd', c', P', h1, h2⟩ := G.T.tab dL hm1
      rw [hn2, hm] at h1
      cases h1
      exact ⟨o', fd', c', P', h2⟩
    obtain ⟨cs, g, hT, hg, hF⟩ := F w mg fa _ (hY w _ Y) G.T.g hmg T
    exact law_at (hY w _ Y) G.T.g G.T.b G.T.builtins G.T.nolimit hgens (let ⟨mm, z, _⟩ := (G.T.seer hq).mods; ⟨mm, z⟩) (hKM w) hT G.T.bmain hobj hints (Nat.le_trans hlen hn2) hr (by rw [← hdn]; exact hmg) hF (hg ns hlen)

/-! ## more targets -/
@[simp] def gTrip3 (a b c : Tg) (d : PyData) (σ : Sg) : Option Sg := match d with
  | .list [x, y, z] => ((a x σ).bind (b y)).bind (c z)
  | _ => none
theorem dg_trip3 {X : Cx} {pos : Pos} {e1 e2 e3 : Expr} {k : Nat} {g1 g2 g3 : Tg} {i1 i2 i3 : List Nat} (hc : X.calm = true) (h1 : DG X e1 g1 i1) (h2 : DG X e2 g2 i2) (h3 : DG X e3 g3 i3)
    (hs1 : (assignEach [e1, e2, e3] X.env).map (·.2) = assign e1 X.env :: (assignEach [e2, e3] X.env).map (·.2) := by rfl) (hs2 : (assignEach [e2, e3] X.env).map (·.2) = assign e2 X.env :: (assignEach [e3] X.env).map (·.2) := by rfl)
    (hs3 : (assignEach [e3] X.env).map (·.2) = assign e3 X.env :: (assignEach [] X.env).map (·.2) := by rfl)
    (hn : (assignEach [e1, e2, e3] X.env).length = 3 := by rfl) (hst : (assignEach [e1, e2, e3] X.env).findIdx? (·.1) = none := by rfl) : DG X (.Tuple [e1, e2, e3] k pos) (gTrip3 g1 g2 g3) (i1 ++ i2 ++ i3) :=
  pg_imp (pg_unl hc (pgs_cons h1 (pgs_cons h2 (pgs_cons h3 pgs_nil hs3) hs2) hs1) hn hst) fun v σV H Q ⟨f, σ, σ', d, hE, hv, hg, q⟩ => by
    unfold gTrip3 at hg
    split at hg
    · rename_i x y z
      cases hv with
      | @lst a xs _ ht ha =>
      cases ha with
      | @cons v1 vs1 _ _ h1' r1 =>
      cases r1 with
      | @cons v2 vs2 _ _ h2' r2 =>
      cases r2 with
      | @cons v3 vs3 _ _ h3' r3 =>
      cases r3
      cases hg1 : g1 x σ with
      | none => rw [hg1] at hg; cases hg
      | some σ1 =>
        rw [hg1] at hg
        have hg : (g2 y σ1).bind (g3 z) = some σ' := hg
        cases hg2 : g2 y σ1 with
        | none => rw [hg2] at hg; cases hg
        | some σ2 =>
          rw [hg2] at hg
          have hg : g3 z σ2 = some σ' := hg
          exact ⟨a, _, rfl, ht.sq, rfl, v1, [v2, v3], rfl, ⟨f, σ, σ1, x, hE, h1', hg1, fun σV1 e1 a1 => ⟨v2, [v3], rfl, ⟨f, σ1, σ2, y, e1, h2', hg2, fun σV2 e2 a2 => ⟨v3, [], rfl, ⟨f, σ2, σ', z, e2, h3', hg, fun σV3 e3 a3 => ⟨rfl, q σV3 e3 ((a1.trans a2).trans a3)⟩⟩⟩⟩⟩⟩⟩
    · cases hg
end Z
set_option maxRecDepth 100000
set_option maxHeartbeats 1000000
namespace Z
open PySem PySem.Spec PyProof.Rows L2

/-! ## short words -/
instance (n : String) : Decidable (asked n) := by unfold asked; exact inferInstance
theorem de_globI {X : Cx} {W : WX} {pos : Pos} {x : Str} {i : Int} {t : Tok} (hm : X.mg x = some (.int i t)) (hg : Gl X x := by rfl) (hd : (x == ("__debug__" : Str)) = false := by decide) : DE X W (.Name x pos) (eLit (.int i)) := de_glob hg hm (v := .int i) ⟨t, rfl⟩ (fun _ _ => Is.int i) hd
/-- the names that are built in still are -/
structure NB (mg : Str → Option Value) : Prop where
  len : mg "len" = none
  range : mg "range" = none
  max : mg "max" = none
  min : mg "min" = none
  abs : mg "abs" = none
  int : mg "int" = none
  bool : mg "bool" = none
  str : mg "str" = none
  tuple : mg "tuple" = none
  list : mg "list" = none
  dict : mg "dict" = none
  sum : mg "sum" = none
  all : mg "all" = none
  any : mg "any" = none
  repr : mg "repr" = none
  isinstance : mg "isinstance" = none
  zip : mg "zip" = none
  enumerate : mg "enumerate" = none
/-- int + int, or what is put together -/
@[simp] def pPlus : SV → SV → Sto → Option SV := fun x y S => match x, y with
  | .d (.int i), .d (.int j) => some (.d (.int (i + j)))
  | x, y => pCat x y S
@[simp] noncomputable def pTimes : SV → SV → Sto → Option SV := fun x y S => match x, y with
  | .d (.int i), .d (.int j) => if short i ∨ short j then some (.d (.int (i * j))) else none
  | x, y => pMulA x y S
section
variable {X : Cx} {W : WX} {k : Nat} {a b c o : Expr} {ea eb ec eo : Ex} {pos p0 p1 apos : Pos}
theorem de_plus (ha : DE X W a ea) (hb : DE X W b eb) : DE X W (.BinOp a .Add b pos) (eBin pPlus ea eb) := de_bin (OpR.or op_add (OpR.or (OpR.or op_catA op_cat) op_add_str)) (by
  intro f S H vx vy x y z Q hS rx ry hp hq
  unfold pPlus at hp
  split at hp
  · cases hp
    cases rx
    cases ry
    exact .inl ⟨_, _, rfl, rfl, hq _ H hS (Kp.refl _ _) (Is.int _)⟩
  · exact .inr (opk_cat f S H vx vy _ _ z Q hS rx ry hp hq)) ha hb
theorem de_times (ha : DE X W a ea) (hb : DE X W b eb) : DE X W (.BinOp a .Mult b pos) (eBin pTimes ea eb) := de_bin (OpR.or op_mul (OpR.or op_mulT op_rep)) (by
  intro f S H vx vy x y z Q hS rx ry hp hq
  unfold pTimes at hp
  split at hp
  · split at hp
    · rename_i h
      cases hp
      cases rx
      cases ry
      exact .inl ⟨_, _, rfl, rfl, h.imp short_pow short_pow, hq _ H hS (Kp.refl _ _) (Is.int _)⟩
    · cases hp
  · exact .inr (opk_mulA f S H vx vy _ _ z Q hS rx ry hp hq)) ha hb
theorem bt_max : bootBuiltins "max" = some (.builtin "max") := by decide +kernel
theorem bt_min : bootBuiltins "min" = some (.builtin "min") := by decide +kernel
theorem bt_abs : bootBuiltins "abs" = some (.builtin "abs") := by decide +kernel
theorem bt_int : bootBuiltins "int" = some (.type "int") := by decide +kernel
theorem bt_bool : bootBuiltins "bool" = some (.type "bool") := by decide +kernel
theorem bt_str : bootBuiltins "str" = some (.type "str") := by decide +kernel
theorem bt_tuple : bootBuiltins "tuple" = some (.type "tuple") := by decide +kernel
theorem bt_list : bootBuiltins "list" = some (.type "list") := by decide +kernel
theorem bt_dict : bootBuiltins "dict" = some (.type "dict") := by decide +kernel
theorem bt_sum : bootBuiltins "sum" = some (.builtin "sum") := by decide +kernel
theorem bt_all : bootBuiltins "all" = some (.builtin "all") := by decide +kernel
theorem bt_any : bootBuiltins "any" = some (.builtin "any") := by decide +kernel
theorem bt_repr : bootBuiltins "repr" = some (.builtin "repr") := by decide +kernel
theorem bt_len : bootBuiltins "len" = some (.builtin "len") := by decide +kernel
theorem da1 (ha : DE X W a ea) (hs : starEach [a] X.env = (false, eval a X.env) :: starEach [] X.env := by rfl) : DA X W [a] (esCons ea esNil) := da_cons ha da_nil hs
theorem da2 (ha : DE X W a ea) (hb : DE X W b eb) (hs : starEach [a, b] X.env = (false, eval a X.env) :: starEach [b] X.env := by rfl) (hs2 : starEach [b] X.env = (false, eval b X.env) :: starEach [] X.env := by rfl) : DA X W [a, b] (esCons ea (esCons eb esNil)) := da_cons ha (da_cons hb da_nil hs2) hs
section
variable (nb : NB X.mg)
@[simp] def eNeg (a : Ex) : Ex := eUn (fun x _ => match x with | .d (.int i) => some (.d (.int (-i))) | _ => none) a
theorem c_len (hm : X.mg "len" = none) (ha : DE X W a ea) (hg : Gl X "len" := by rfl) (h1 : starEach [a] X.env = (false, eval a X.env) :: starEach [] X.env := by rfl) (h2 : (backTo pos (starEach [] X.env)).any (·.1) = false := by rfl) : DE X W (.Call (.Name "len" p0) [a] [] pos) (eCa pLen (esCons ea esNil)) := de_callB call_len cak_len hg hm bt_len (da1 ha h1) (he := h1) (hpl := h2)
theorem c_abs (hm : X.mg "abs" = none) (ha : DE X W a ea) (hg : Gl X "abs" := by rfl) (h1 : starEach [a] X.env = (false, eval a X.env) :: starEach [] X.env := by rfl) (h2 : (backTo pos (starEach [] X.env)).any (·.1) = false := by rfl) : DE X W (.Call (.Name "abs" p0) [a] [] pos) (eCa pAbs (esCons ea esNil)) := de_callB call_abs cak_i1 hg hm bt_abs (da1 ha h1) (he := h1) (hpl := h2)
theorem c_int (hm : X.mg "int" = none) (ha : DE X W a ea) (hg : Gl X "int" := by rfl) (h1 : starEach [a] X.env = (false, eval a X.env) :: starEach [] X.env := by rfl) (h2 : (backTo pos (starEach [] X.env)).any (·.1) = false := by rfl) : DE X W (.Call (.Name "int" p0) [a] [] pos) (eCa pInt (esCons ea esNil)) := de_callTy call_int1 cak_int hg hm bt_int (da1 ha h1) (he := h1) (hpl := h2)
theorem c_str (hm : X.mg "str" = none) (ha : DE X W a ea) (hg : Gl X "str" := by rfl) (h1 : starEach [a] X.env = (false, eval a X.env) :: starEach [] X.env := by rfl) (h2 : (backTo pos (starEach [] X.env)).any (·.1) = false := by rfl) : DE X W (.Call (.Name "str" p0) [a] [] pos) (eCa pStr (esCons ea esNil)) := de_callTy (CallR.or call_str_int SkE.call_str_str) cak_str hg hm bt_str (da1 ha h1) (he := h1) (hpl := h2)
theorem c_list (hm : X.mg "list" = none) (ha : DE X W a ea) (hg : Gl X "list" := by rfl) (h1 : starEach [a] X.env = (false, eval a X.env) :: starEach [] X.env := by rfl) (h2 : (backTo pos (starEach [] X.env)).any (·.1) = false := by rfl) : DE X W (.Call (.Name "list" p0) [a] [] pos) (eCa pListOf (esCons ea esNil)) := de_callTy call_list_of cak_listof hg hm bt_list (da1 ha h1) (he := h1) (hpl := h2)
theorem c_tuple (hm : X.mg "tuple" = none) (ha : DE X W a ea) (hg : Gl X "tuple" := by rfl) (h1 : starEach [a] X.env = (false, eval a X.env) :: starEach [] X.env := by rfl) (h2 : (backTo pos (starEach [] X.env)).any (·.1) = false := by rfl) : DE X W (.Call (.Name "tuple" p0) [a] [] pos) (eCa pTupOf (esCons ea esNil)) := de_callTy call_tuple_of cak_tupof hg hm bt_tuple (da1 ha h1) (he := h1) (hpl := h2)
theorem c_sum (G : Gd X W k) (hm : X.mg "sum" = none) (ha : DE X W a ea) (hg : Gl X "sum" := by rfl) (h1 : starEach [a] X.env = (false, eval a X.env) :: starEach [] X.env := by rfl) (h2 : (backTo pos (starEach [] X.env)).any (·.1) = false := by rfl) : DE X W (.Call (.Name "sum" p0) [a] [] pos) (eCa pSum (esCons ea esNil)) := de_callB (cr_sum G.calm) cak_sum hg hm bt_sum (da1 ha h1) (he := h1) (hpl := h2)
theorem c_all (G : Gd X W k) (hm : X.mg "all" = none) (ha : DE X W a ea) (hg : Gl X "all" := by rfl) (h1 : starEach [a] X.env = (false, eval a X.env) :: starEach [] X.env := by rfl) (h2 : (backTo pos (starEach [] X.env)).any (·.1) = false := by rfl) : DE X W (.Call (.Name "all" p0) [a] [] pos) (eCa pAll (esCons ea esNil)) := de_callB (cr_all G.calm) cak_all hg hm bt_all (da1 ha h1) (he := h1) (hpl := h2)
theorem c_any (G : Gd X W k) (hm : X.mg "any" = none) (ha : DE X W a ea) (hg : Gl X "any" := by rfl) (h1 : starEach [a] X.env = (false, eval a X.env) :: starEach [] X.env := by rfl) (h2 : (backTo pos (starEach [] X.env)).any (·.1) = false := by rfl) : DE X W (.Call (.Name "any" p0) [a] [] pos) (eCa pAny (esCons ea esNil)) := de_callB (cr_any G.calm) cak_any hg hm bt_any (da1 ha h1) (he := h1) (hpl := h2)
theorem c_repr (G : Gq X) (hm : X.mg "repr" = none) (ha : DE X W a ea) (hg : Gl X "repr" := by rfl) (h1 : starEach [a] X.env = (false, eval a X.env) :: starEach [] X.env := by rfl) (h2 : (backTo pos (starEach [] X.env)).any (·.1) = false := by rfl) : DE X W (.Call (.Name "repr" p0) [a] [] pos) (eCa pRepr (esCons ea esNil)) := de_callB (call_repr_d G) cak_repr hg hm bt_repr (da1 ha h1) (he := h1) (hpl := h2)
theorem c_max (G : Gd X W k) (hm : X.mg "max" = none) (ha : DE X W a ea) (hb : DE X W b eb) (hg : Gl X "max" := by rfl) (h1 : starEach [a, b] X.env = (false, eval a X.env) :: starEach [b] X.env := by rfl) (h3 : starEach [b] X.env = (false, eval b X.env) :: starEach [] X.env := by rfl) (h2 : (backTo pos (starEach [b] X.env)).any (·.1) = false := by rfl) : DE X W (.Call (.Name "max" p0) [a, b] [] pos) (eCa pMax (esCons ea (esCons eb esNil))) := de_callB (call_max2 G.calm) cak_i2 hg hm bt_max (da2 ha hb h1 h3) (he := h1) (hpl := h2)
theorem c_min (G : Gd X W k) (hm : X.mg "min" = none) (ha : DE X W a ea) (hb : DE X W b eb) (hg : Gl X "min" := by rfl) (h1 : starEach [a, b] X.env = (false, eval a X.env) :: starEach [b] X.env := by rfl) (h3 : starEach [b] X.env = (false, eval b X.env) :: starEach [] X.env := by rfl) (h2 : (backTo pos (starEach [b] X.env)).any (·.1) = false := by rfl) : DE X W (.Call (.Name "min" p0) [a, b] [] pos) (eCa pMin (esCons ea (esCons eb esNil))) := de_callB (call_min2 G.calm) cak_i2 hg hm bt_min (da2 ha hb h1 h3) (he := h1) (hpl := h2)
end
/-- statements -/
theorem s_set {i : Nat} {x : Str} {pos' : Pos} (G : Gq X) (he : DE X W a ea) (hi : X.N[i]? = some x := by rfl) (hx : Loc X.env.scope x := by first | exact Or.inl rfl | exact Or.inr rfl) (hs : swapsWith a (some (.Name x pos')) pos.line X.env = pure false := by rfl) (hf : X.fn x = true ∨ X.env.scope.names.lookup x = some .local := by first | exact .inl rfl | exact .inr rfl) :
    DS X W (.Assign [.Name x pos'] a pos) (sSet i ea) := ds_set G.nd hi hx he hs hf
theorem s_new {i : Nat} {x : Str} {pos' : Pos} {en : Nw} (G : Gq X) (he : DN X W a en) (hi : X.N[i]? = some x := by rfl) (hx : Loc X.env.scope x := by first | exact Or.inl rfl | exact Or.inr rfl) (hs : swapsWith a (some (.Name x pos')) pos.line X.env = pure false := by rfl) (hf : X.fn x = true ∨ X.env.scope.names.lookup x = some .local := by first | exact .inl rfl | exact .inr rfl) :
    DS X W (.Assign [.Name x pos'] a pos) (sNew i en) := ds_new G.nd hi hx he hs hf
/-- a, b = a new list, e -/
@[simp] def sParN (i j : Nat) (n : Nw) (e : Ex) (σ : Sg) (S : Sto) : Option Flow := Sm.bnd (n σ S) fun ob S1 => Sm.bnd (e σ (S1 ++ [ob])) fun y S2 => some (.nx ((σ.set i (some (.r S1.length))).set j (some y)) S2)
theorem ds_parN {i j : Nat} {x y : Str} {en : Nw} {px py pt : Pos} {kt k2 pt2} (G : Gd X W k) (ha : DN X W a en) (hb : DE X W b eb) (hi : X.N[i]? = some x := by rfl) (hj : X.N[j]? = some y := by rfl) (hij : i ≠ j := by decide)
    (hx : X.env.scope.names.lookup x = some .local := by rfl) (hy : X.env.scope.names.lookup y = some .local := by rfl)
    (hw : swappedStores [.Tuple [.Name x px, .Name y py] kt pt] (.Tuple [a, b] k2 pt2) X.env = pure (some [x, y]) := by rfl)
    (hs : swapsWithSole [.Tuple [.Name x px, .Name y py] kt pt] (.Tuple [a, b] k2 pt2) pos.line X.env = pure false := by rfl)
    (h1 : starEach [a, b] X.env = (false, eval a X.env) :: starEach [b] X.env := by rfl) (h2 : starEach [b] X.env = (false, eval b X.env) :: starEach [] X.env := by rfl) :
    DS X W (.Assign [.Tuple [.Name x px, .Name y py] kt pt] (.Tuple [a, b] k2 pt2) pos) (sParN i j en eb) :=
  ps_imp (ps_par G.calm G.nd hi hj hij hx hy (pa_cons ha (pa_cons hb pa_nil h2) h1) hw hs) fun D σV H ⟨f, σ, S, r, hE, hS, hr, hf⟩ => by
    unfold tPar tCons
    refine TN.stm hE hS hr hf fun ob S1 p H1 h1 f1 s1 k1 e1 np => ?_
    dsimp only
    refine TX.stm e1 s1 h1 f1 fun v S2 u H2 h2 f2 s2 k2 e2 r2 => ?_
    cases h2
    have hl : f.o.length = S1.length := by
      have := s1.len
      simp [Ow.add] at this
      exact this
    have hp : SvR X.K (f.add [p]) H2 (.ref p) (.r S1.length) := ⟨p, by show (f.o ++ [p])[S1.length]? = some p; rw [← hl]; simp, rfl⟩
    exact ⟨_, _, rfl, ReS.now f2 s2 ((e2.set i hp).set j r2)⟩
end
end Z
set_option maxRecDepth 100000
set_option maxHeartbeats 1000000
namespace Z
open PySem PySem.Spec PyProof.Rows L2

/-! ## loops, by what holds between two turns -/
theorem forGo_inv {g : Tg} {body : Sm} (P : Nat → Sg → Sto → Prop) : ∀ (ds : List PyData) (k : Nat),
    (∀ (j : Nat) (d : PyData) (σ : Sg) (S : Sto), ds[j]? = some d → P (k + j) σ S → ∃ σ1, g d σ = some σ1 ∧ ∃ σ2 S2, body σ1 S = some (.nx σ2 S2) ∧ P (k + j + 1) σ2 S2) →
    ∀ (σ : Sg) (S : Sto), P k σ S → ∃ σ' S', forGo none g body ds σ S = some (.nx σ' S') ∧ P (k + ds.length) σ' S'
  | [], k, _, σ, S, h => ⟨σ, S, by simp [forGo, gdOk], h⟩
  | d :: ds, k, hs, σ, S, h => by
    obtain ⟨σ1, e1, σ2, S2, e2, h2⟩ := hs 0 d σ S rfl h
    obtain ⟨σ', S', e3, h3⟩ := forGo_inv P ds (k + 1) (fun j d' σ S hd hp => by
      have := hs (j + 1) d' σ S (by simpa using hd) (by rw [show k + (j + 1) = k + 1 + j by omega]; exact hp)
      rw [show k + (j + 1) + 1 = k + 1 + j + 1 by omega] at this
      exact this) σ2 S2 h2
    refine ⟨σ', S', ?_, by rw [List.length_cons, show k + (ds.length + 1) = k + 1 + ds.length by omega]; exact h3⟩
    simp [forGo, gdOk, e1, e2, e3]
theorem cmpGo_inv {g : Tg} {t : Tst} {e : Ex} {σ0 : Sg} (P : Nat → Sto → List PyData → Prop) : ∀ (ds : List PyData) (k : Nat) (acc : List PyData),
    (∀ (j : Nat) (d : PyData) (S : Sto) (ac : List PyData), ds[j]? = some d → P (k + j) S ac → ac.length = acc.length + j → ∃ σ1, g d σ0 = some σ1 ∧ ∃ S1, t σ1 S = some (.ok true S1) ∧ ∃ y S2, e σ1 S1 = some (.ok (.d y) S2) ∧ P (k + j + 1) S2 (ac ++ [y])) →
    acc.length + ds.length ≤ sizeLine → ∀ (S : Sto), P k S acc → ∃ S' out, cmpGo none g t e σ0 ds acc S = some (S', out) ∧ P (k + ds.length) S' out ∧ out.length = acc.length + ds.length
  | [], k, acc, _, _, S, h => ⟨S, acc, by simp [cmpGo, gdOk], h, by simp⟩
  | d :: ds, k, acc, hs, hz, S, h => by
    obtain ⟨σ1, e1, S1, e2, y, S2, e3, h2⟩ := hs 0 d S acc rfl h (by simp)
    have hl : (acc ++ [y]).length = acc.length + 1 := by simp
    obtain ⟨S', out, e4, h3, h4⟩ := cmpGo_inv P ds (k + 1) (acc ++ [y]) (fun j d' S ac hd hp hac => by
      have := hs (j + 1) d' S ac (by simpa using hd) (by rw [show k + (j + 1) = k + 1 + j by omega]; exact hp) (by rw [hac, hl]; omega)
      rw [show k + (j + 1) + 1 = k + 1 + j + 1 by omega] at this
      exact this) (by rw [hl]; simp at hz; omega) S2 h2
    refine ⟨S', out, ?_, by rw [List.length_cons, show k + (ds.length + 1) = k + 1 + ds.length by omega]; exact h3, by rw [h4, hl]; simp; omega⟩
    have hlt : acc.length < sizeLine := by simp at hz; omega
    simp [cmpGo, gdOk, e1, e2, e3, hlt, e4]
/-- a comprehension that changes nothing: each item by itself -/
theorem cmpGo_map {g : Tg} {e : Ex} {σ0 : Sg} {S : Sto} (h : PyData → PyData) : ∀ (ds acc : List PyData),
    (∀ d ∈ ds, ∃ σ1, g d σ0 = some σ1 ∧ e σ1 S = some (.ok (.d (h d)) S)) → acc.length + ds.length ≤ sizeLine → cmpGo none g tTrue e σ0 ds acc S = some (S, acc ++ ds.map h)
  | [], acc, _, _ => by simp [cmpGo, gdOk]
  | d :: ds, acc, hs, hz => by
    obtain ⟨σ1, e1, e2⟩ := hs d List.mem_cons_self
    have hlt : acc.length < sizeLine := by simp at hz; omega
    have ih := cmpGo_map h ds (acc ++ [h d]) (fun d' m => hs d' (List.mem_cons_of_mem _ m)) (by simp at hz ⊢; omega)
    simp [cmpGo, gdOk, e1, tTrue, e2, hlt, ih]
theorem upTo_len (lo : Int) (n : Nat) : (upTo lo n).length = n := by simp [upTo]
theorem upTo_get {lo : Int} {n i : Nat} {d : PyData} (h : (upTo lo n)[i]? = some d) : i < n ∧ d = .int (lo + (i : Int)) := by
  have hi : i < n := by
    have := (List.getElem?_eq_some_iff.mp h).1
    simpa [upTo] using this
  refine ⟨hi, ?_⟩
  unfold upTo at h
  rw [List.getElem?_map, List.getElem?_range hi] at h
  exact (Option.some.inj h).symm

/-! ## the great modulus of a stream -/
def T60 : Int := 10 ^ 60
def T720 : Int := T60 ^ 12
theorem pow_a (S : Sto) : pPow (.d (.int 10)) (.d (.int 60)) S = some (.d (.int T60)) := by
  have h : (0 : Int) ≤ 60 ∧ (60 : Int) ≤ 1000 ∧ -(10 ^ 60) ≤ (10 : Int) ∧ (10 : Int) ≤ 10 ^ 60 := by decide +kernel
  unfold pPow iop
  dsimp only
  rw [if_pos h]
  rfl
theorem pow_b (S : Sto) : pPow (.d (.int T60)) (.d (.int 12)) S = some (.d (.int T720)) := by
  have h : (0 : Int) ≤ 12 ∧ (12 : Int) ≤ 1000 ∧ -(10 ^ 60) ≤ T60 ∧ T60 ≤ 10 ^ 60 := by decide +kernel
  unfold pPow iop
  dsimp only
  rw [if_pos h]
  rfl
theorem T720_pos : 0 < T720 := by decide +kernel
def T18 : Int := 10 ^ 18
theorem pow_c (S : Sto) : pPow (.d (.int 10)) (.d (.int 18)) S = some (.d (.int T18)) := by
  have h : (0 : Int) ≤ 18 ∧ (18 : Int) ≤ 1000 ∧ -(10 ^ 60) ≤ (10 : Int) ∧ (10 : Int) ≤ 10 ^ 60 := by decide +kernel
  unfold pPow iop
  dsimp only
  rw [if_pos h]
  rfl
theorem pow_g {a b : Int} (S : Sto) (h : 0 ≤ b ∧ b ≤ 1000 ∧ -(10 ^ 60) ≤ a ∧ a ≤ 10 ^ 60) : pPow (.d (.int a)) (.d (.int b)) S = some (.d (.int (a ^ b.toNat))) := by
  unfold pPow iop
  dsimp only
  rw [if_pos h]
  rfl

/-! ## == of data -/
def tupI (ns : List Int) : PyData := .tuple (ns.map .int)
mutual
theorem eqv_self : ∀ d : PyData, d.hasDict = false → PyData.eqv d d = true
  | .none, _ => by simp [PyData.eqv]
  | .bool b, _ => by simp [PyData.eqv]
  | .int i, _ => by simp [PyData.eqv]
  | .str x, _ => by simp [PyData.eqv]
  | .list ds, h => by simp only [PyData.eqv]; exact eqv_selfs ds (by simpa [PyData.hasDict] using h)
  | .tuple ds, h => by simp only [PyData.eqv]; exact eqv_selfs ds (by simpa [PyData.hasDict] using h)
  | .dict _, h => by simp [PyData.hasDict] at h
theorem eqv_selfs : ∀ ds : List PyData, PyData.hasDictAll ds = false → PyData.eqvAll ds ds = true
  | [], _ => by simp [PyData.eqvAll]
  | d :: ds, h => by
    have h : d.hasDict = false ∧ PyData.hasDictAll ds = false := by simpa [PyData.hasDictAll] using h
    simp [PyData.eqvAll, eqv_self d h.1, eqv_selfs ds h.2]
end
theorem okD_int (i : Int) : okD (.int i) = true := by
  unfold okD SeqAt.shaped
  simp [PyData.canLay0, PyData.depth]
theorem okD_bool (i : Bool) : okD (.bool i) = true := by
  unfold okD SeqAt.shaped
  simp [PyData.canLay0, PyData.depth]
theorem okD_none : okD .none = true := by
  unfold okD SeqAt.shaped
  simp [PyData.canLay0, PyData.depth]
theorem hasDict_ints (ns : List Int) : PyData.hasDictAll (ns.map .int) = false := by
  induction ns with
  | nil => simp [PyData.hasDictAll]
  | cons n ns ih => simp [PyData.hasDictAll, PyData.hasDict, ih]
end Z
set_option maxRecDepth 100000
set_option maxHeartbeats 1000000
namespace Z
open PySem PySem.Spec PyProof.Rows L2

/-! ## how long a repr is at most -/
mutual
/-- a bound of the signs of a repr -/
def szR : PyData → Nat
  | .none => 4
  | .bool _ => 5
  | .int i => i.natAbs.log2 + 3
  | .str x => (reprText x).length
  | .list xs => szRs xs + 2
  | .tuple xs => szRs xs + 3
  | .dict kvs => (PyData.shown (.dict kvs)).length
def szRs : List PyData → Nat
  | [] => 0
  | x :: xs => szR x + 2 + szRs xs
end
theorem strLen_of (s : String) : (Str.ofString s).length = s.length := by
  rw [Str.ofString_eq_toList]
  show ((s.toList.map Char.toNat).toArray).size = _
  simp [String.length_toList]
theorem nat_repr_len (n : Nat) : n.repr.length ≤ n.log2 + 1 := by
  rw [Nat.length_repr_le_iff (by omega)]
  have h1 := Nat.lt_log2_self (n := n)
  have h2 : (2 : Nat) ^ (n.log2 + 1) ≤ 10 ^ (n.log2 + 1) := Nat.pow_le_pow_left (by omega) _
  omega
theorem int_str_len (i : Int) : (Str.ofString (toString i)).length ≤ i.natAbs.log2 + 3 := by
  rw [strLen_of]
  cases i with
  | ofNat m =>
    have := nat_repr_len m
    show (m.repr).length ≤ m.log2 + 3
    omega
  | negSucc m =>
    have := nat_repr_len (m + 1)
    show ("-" ++ (m + 1).repr).length ≤ (m + 1).log2 + 3
    rw [String.length_append]
    have e : ("-" : String).length = 1 := rfl
    omega
theorem textFrom_len0 (ts : List Str) : (listText ts).length ≤ piled ts + 2 := by
  cases ts with
  | nil => decide
  | cons t r =>
    have h := textFrom_length_pos r 1 (("[" : Str) ++ ("" : String) ++ t) (by omega)
    have e : (("[" : Str) ++ ("" : String) ++ t).length = 1 + t.length := by
      rw [strLen_append, strLen_append]; rfl
    show ((textFrom 1 (("[" : Str) ++ ("" : String) ++ t) r) ++ ("]" : Str)).length ≤ _
    rw [strLen_append, h, e, piled_cons]
    have e3 : (("]" : String) : Str).length = 1 := rfl
    omega
theorem tupleText_len0 (ts : List Str) : (tupleText ts).length ≤ piled ts + 3 := by
  cases ts with
  | nil => decide
  | cons t r =>
    have h := join_length_add (t :: r) (by simp)
    unfold tupleText
    rw [strLen_append, strLen_append]
    have e1 : (("(" : String) : Str).length = 1 := rfl
    have e2 : ((if (t :: r).length == 1 then ",)" else ")" : String) : Str).length ≤ 2 := by
      split
      · exact Nat.le_refl _
      · decide
    omega
mutual
theorem shown_le : ∀ d : PyData, d.shown.length ≤ szR d
  | .none => by simp only [PyData.shown, szR]; decide
  | .bool b => by cases b <;> (simp only [PyData.shown, szR]; decide)
  | .int i => by simp only [PyData.shown, szR]; exact int_str_len i
  | .str x => by simp only [PyData.shown, szR]; exact Nat.le_refl _
  | .list xs => by
    have := shown_les xs
    have h2 := textFrom_len0 (PyData.shownAll xs)
    simp only [PyData.shown, szR]
    omega
  | .tuple xs => by
    have := shown_les xs
    have h2 := tupleText_len0 (PyData.shownAll xs)
    simp only [PyData.shown, szR]
    omega
  | .dict kvs => Nat.le_refl _
theorem shown_les : ∀ ds : List PyData, piled (PyData.shownAll ds) ≤ szRs ds
  | [] => by simp [PyData.shownAll, szRs, piled_nil]
  | d :: ds => by
    have h1 := shown_le d
    have h2 := shown_les ds
    simp only [PyData.shownAll, szRs, piled_cons]
    omega
end
theorem okR_of {d : PyData} (h1 : d.showable = true) (h2 : d.depth ≤ 100) (h4 : szR d ≤ sizeLine) : okR d :=
  ⟨h1, h2, Nat.le_trans (shown_le d) h4⟩
/-! ### tuples of small numbers -/
def smallN (ns : List Int) : Prop := ∀ n ∈ ns, -18446744073709551616 < n ∧ n < 18446744073709551616
theorem log_small {n : Int} (h : -18446744073709551616 < n ∧ n < 18446744073709551616) : n.natAbs.log2 ≤ 63 := by
  by_cases h0 : n.natAbs = 0
  · rw [h0]; decide
  · have h1 : n.natAbs < 2 ^ 64 := by omega
    have := (Nat.log2_lt h0).mpr h1
    omega
theorem ints_sz {ns : List Int} (h : smallN ns) : szRs (ns.map .int) ≤ 70 * ns.length := by
  induction ns with
  | nil => simp [szRs]
  | cons n ns ih =>
    have h1 := log_small (h n List.mem_cons_self)
    have h2 := ih fun m hm => h m (List.mem_cons_of_mem _ hm)
    simp only [List.map_cons, szRs, szR, List.length_cons]
    omega
theorem ints_show {ns : List Int} (h : smallN ns) : PyData.showableAll (ns.map .int) = true := by
  induction ns with
  | nil => simp [PyData.showableAll]
  | cons n ns ih =>
    have h1 := log_small (h n List.mem_cons_self)
    have h2 := ih fun m hm => h m (List.mem_cons_of_mem _ hm)
    simp only [List.map_cons, PyData.showableAll, PyData.showable, h2, Bool.and_true, decide_eq_true_eq]
    omega
theorem ints_depth (ns : List Int) : PyData.depthAll (ns.map .int) = 0 := by
  induction ns with
  | nil => simp [PyData.depthAll]
  | cons n ns ih => simp [PyData.depthAll, PyData.depth, ih]
theorem ints_lay (ns : List Int) : PyData.canLayAll0 (ns.map .int) = true := by
  induction ns with
  | nil => simp [PyData.canLayAll0]
  | cons n ns ih => simp [PyData.canLayAll0, PyData.canLay0, ih]
theorem okD_tupI (ns : List Int) : okD (tupI ns) = true := by
  unfold okD SeqAt.shaped tupI
  simp [PyData.canLay0, PyData.depth, ints_depth, ints_lay]
theorem okD_lstI (ns : List Int) : okD (.list (ns.map .int)) = true := by
  unfold okD SeqAt.shaped
  simp [PyData.canLay0, PyData.depth, ints_depth, ints_lay]
/-- what may be shown: no dict, not deep, not long -/
structure Sh (d : PyData) (dep sz : Nat) : Prop where
  s : d.showable = true
  p : d.depth ≤ dep
  z : szR d ≤ sz
structure Shs (ds : List PyData) (dep sz : Nat) : Prop where
  s : PyData.showableAll ds = true
  p : PyData.depthAll ds ≤ dep
  z : szRs ds ≤ sz
theorem Sh.ok {d : PyData} {dep sz : Nat} (h : Sh d dep sz) (h1 : dep ≤ 100 := by omega) (h2 : sz ≤ sizeLine := by decide) : okR d :=
  okR_of h.s (by have := h.p; omega) (by have := h.z; omega)
theorem Shs.nil (dep sz : Nat) : Shs [] dep sz := ⟨by simp [PyData.showableAll], by simp [PyData.depthAll], by simp [szRs]⟩
theorem Shs.cons {d : PyData} {ds : List PyData} {dep sz sz2 : Nat} (h : Sh d dep sz) (h2 : Shs ds dep sz2) : Shs (d :: ds) dep (sz + 2 + sz2) :=
  ⟨by simp [PyData.showableAll, h.s, h2.s], by have := h.p; have := h2.p; simp only [PyData.depthAll]; omega, by have := h.z; have := h2.z; simp only [szRs]; omega⟩
theorem Shs.list {ds : List PyData} {dep sz : Nat} (h : Shs ds dep sz) : Sh (.list ds) (dep + 1) (sz + 2) :=
  ⟨by simp [PyData.showable, h.s], by have := h.p; simp only [PyData.depth]; omega, by have := h.z; simp only [szR]; omega⟩
theorem Shs.tup {ds : List PyData} {dep sz : Nat} (h : Shs ds dep sz) : Sh (.tuple ds) (dep + 1) (sz + 3) :=
  ⟨by simp [PyData.showable, h.s], by have := h.p; simp only [PyData.depth]; omega, by have := h.z; simp only [szR]; omega⟩
theorem Sh.int {n : Int} (h : -18446744073709551616 < n ∧ n < 18446744073709551616) {dep : Nat} : Sh (.int n) dep 70 :=
  ⟨by have := log_small h; simp only [PyData.showable, decide_eq_true_eq]; omega, by simp [PyData.depth], by have := log_small h; simp only [szR]; omega⟩
theorem Sh.tupI {ns : List Int} (h : smallN ns) {m : Nat} (hm : ns.length ≤ m) : Sh (tupI ns) 1 (70 * m + 3) :=
  ⟨by simp only [Z.tupI, PyData.showable]; exact ints_show h, by simp [Z.tupI, PyData.depth, ints_depth], by have := ints_sz h; simp only [Z.tupI, szR]; omega⟩
end Z
namespace Z
open PySem
@[simp] theorem sz_le {n : Nat} (h : n ≤ 1000) : n ≤ sizeLine := Nat.le_trans h (by decide)
@[simp] theorem sz_lt {n : Nat} (h : n < 1000) : n < sizeLine := Nat.lt_of_lt_of_le h (by decide)
end Z
namespace Z
open PySem
theorem seq_nx {a b : Sm} {σ σ' : Sg} {S S' : Sto} (h : a σ S = some (.nx σ' S')) : sSeq a b σ S = b σ' S' := by
  unfold sSeq
  rw [h]
end Z
namespace Z
open PySem
theorem eBin_eq {p : SV → SV → Sto → Option SV} {a b : Ex} {σ : Sg} {S S1 S2 : Sto} {x y z : SV} (h1 : a σ S = some (.ok x S1)) (h2 : b σ S1 = some (.ok y S2)) (h3 : p x y S2 = some z) : eBin p a b σ S = some (.ok z S2) := by
  unfold eBin
  rw [h1, bnd_ok, h2, bnd_ok, h3]
  rfl
end Z
set_option maxRecDepth 100000
set_option maxHeartbeats 1000000
namespace Z
open PySem PySem.Spec PyProof.Rows L2

/-! ## own exceptions over any base that keep one field -/
/-- what is written of such a class, its base made by nid -/
structure KeepC (K : PySem.W.Frag) (C : Addr) (bmB : List Value) (nid : String) : Prop where
  made : PySem.W.excInitIn K C bmB nid = true
  over : PySem.W.excOver K C bmB = true
  hasD : PySem.W.hasDictIn K C = true
  sa : PySem.W.findIn K (.ref C) "__setattr__" = some (some (.builtin "object.__setattr__"))
  exC : PySem.W.subIn K (.ref C) (.type "BaseException") = some true
  tyC : PySem.W.typeIn K (.ref C) = some (.type "type")
  kC : PySem.W.keepIn K (.ref C) = true
section
open PySem.W PySem.Calls PySem.HandSPX Builtin Builtin.ObjectAttr
theorem keep_osa {prog : Program} {w : World} {A : Around} {R : Result → Shared → Prop} {hp : Heap} {g : Array GenState} {d : Drawn} {t : Nat} {os : OsState} {K : PySem.W.Frag} {name : Str} {tk : Tok} {v : Value} {x C : Addr} {fv : Array Value} {B : String} {bmB : List Value}
    (SF : StoreFacts B bmB "object.__setattr__" "object") (KX : K.In hp) (hx : hp.get? x = some { cls := .ref C, data := .fields fv }) (ho : PySem.W.excOver K C bmB = true) (hd : PySem.W.hasDictIn K C = true) (hno : PySem.W.findIn K (.ref C) name = some none)
    (hq : ∀ h2 tk2 dx, (∀ b o, b ≠ x → hp.get? b = some o → h2.get? b = some o) → hp.objs.size ≤ dx → dx ≠ x → h2.get? x = some { cls := .ref C, dict := some dx, data := .fields fv } →
      h2.Ns1 dx (fun y => if y = name then some v else none) → R (.ok (.ret .none)) ⟨h2, g, d, tk2, os⟩) :
    codeAny (model prog w) A (.call (.builtin "object.__setattr__") ⟨[.ref x, .str name tk, v], []⟩) R ⟨hp, g, d, t, os⟩ := by
  have I : PySem.W.InstAt hp x { cls := .ref C, data := .fields fv } C none := ⟨hx, rfl, rfl, trivial⟩
  have ht : PySem.W.takerIn K C name = some none := by
    unfold PySem.W.takerIn
    rw [hno]
    rfl
  refine PySem.W.osa_openX SF KX I ho ht fun b => ?_
  obtain ⟨cd, hcd, hdd⟩ := PySem.W.any_some hd
  have hxs : x ≠ hp.objs.size := Nat.ne_of_lt (Heap.lt_size hx)
  have hcls : PySem.W.Looks (model prog w) hp (classData C) cd := PySem.W.looks_clsIn KX hcd
  show wpAny _ _ (storeInOwnDict (.ref x) (.ref C) (.str name tk) name v b) _ _ _
  obtain ⟨nm, bs, mro, ns, qn, hdc, sn, sb, ab, col, del⟩ := cd
  dsimp only at hdd
  subst hdd
  unfold storeInOwnDict ownDictForStores
  repeat (first | with_reducible refine store_in_new ?_ ?_ | with_reducible refine wpAny_loadPart_at hx ?_ | with_reducible refine hcls.at ?_ | wp_step)
  · exact ⟨_, #[], _, (Heap.get?_update_ne _ _ _ _ hxs.symm).trans (Heap.get?_push_at rfl rfl), rfl, fun e he => absurd he (by simp), fun _ => rfl⟩
  · intro h2 tk2 hn2 hs
    have hx1 : (hp.push { cls := .type "dict", data := .dict #[] }).get? x = some { cls := .ref C, data := .fields fv } := Heap.get?_push_of_some _ hx
    refine hq h2 tk2 hp.objs.size (fun b o hb hbo => ?_) (Nat.le_refl _) hxs.symm ?_ hn2
    · have z1 := hs.2 b (Nat.ne_of_lt (Heap.lt_size hbo))
      exact z1.trans ((Heap.get?_update_ne _ _ _ _ hb).trans (Heap.get?_push_of_some _ hbo))
    · have z2 := hs.2 x hxs
      exact z2.trans (Heap.get?_update_self _ hx1 rfl)
end
theorem KeepC.cls {K : PySem.W.Frag} {C : Addr} {bmB : List Value} {nid : String} (T : KeepC K C bmB nid) : ∃ nm q N bs bm sn sub ab col dd k0 k1 k2 k3 k5, K.lookup C = some (excClassObj nm q C N bs bm true sn sub ab col dd k0 k1 k2 k3 k5 nid) ∧ ∀ Y : String, bm.contains (.type Y) = bmB.contains (.type Y) := by
  have q := T.made
  have hd := T.hasD
  unfold PySem.W.excInitIn at q
  split at q
  · rename_i dd cd sl e
    split at q
    · rename_i C2 bm k0 k1 k2 k3 n k5 hm hs
      simp only [Bool.and_eq_true, beq_iff_eq, Bool.not_eq_true'] at q
      obtain ⟨⟨⟨q1, q2⟩, q3⟩, q4⟩ := q
      subst q1 q2
      obtain ⟨cd2, h2, h3⟩ := PySem.W.any_some hd
      have h4 : cd2 = cd := by
        unfold PySem.W.clsIn at h2
        rw [e] at h2
        exact (Option.some.inj h2).symm
      subst h4
      obtain ⟨nm, bs, mro, ns, qn, hd, sn, sub, ab, col, del⟩ := cd2
      dsimp only at hm q3 h3
      subst hm q3 h3
      have hsl : sl = #[k0, k1, k2, k3, some (.builtin n), k5] := by
        cases sl with
        | mk l =>
          simp only at hs
          rw [hs]
      subst hsl
      exact ⟨nm, qn, ns, bs, bm, sn, sub, ab, col, dd, k0, k1, k2, k3, k5, e, fun Y => PySem.W.excTail_contains Y _ q4⟩
    · cases q
  · cases q
section
variable {X : Cx} {pins : List (Addr × Obj)} {σ : L2.St} {H : Hp} {s : Shared} {a C dx : Addr} {f : Str} {y : V} {u : Value} {Q : Unit → Shared → Prop} {E : Value → Shared → Prop} {A : Around} {B nid iid : String} {bmB : List Value}
/-- self.f = y, the first and only one -/
theorem keep_set (SF : StoreFacts B bmB "object.__setattr__" "object") (T : KeepC X.K C bmB nid) (I : Inv X pins σ H s) (e : H a = some (exo a C none)) (hno : PySem.W.findIn X.K (.ref C) f = some none) (ry : RelV y u)
    (h : ∀ dx s2, H dx = none → dx ≠ a → Inv X pins σ (upd (upd H dx (exd dx [(f, y)])) a (exo a C (some dx))) s2 → Q () s2) : wpAny (model X.prog X.w) A (setAttr (.ref a) f u) Q E s := by
  obtain ⟨t1, ho⟩ := exo_at I.hok e
  obtain ⟨hp, g, d, t, os⟩ := s
  refine PySem.W.set_plain I.kIn (ox := { cls := .ref C, dict := none, data := .fields #[.ref t1, .none, .none, .none, .bool false, .none] }) (od := none) ⟨ho, rfl, rfl, trivial⟩ T.sa ?_
  refine keep_osa SF I.kIn ho T.over T.hasD hno fun h2 t2 dx k dn dne hx hn => ?_
  have hnd : H dx = none := I.hok.fresh dn
  have nd : ∀ {b : Addr} {o : Obj}, hp.get? b = some o → b ≠ dx := fun {b o} z => Nat.ne_of_lt (Nat.lt_of_lt_of_le (Heap.lt_size z) dn)
  have na : ∀ {b : Addr}, H b = none → b ≠ a := fun {b} n z => by
    subst z
    rw [e] at n
    cases n
  have U : Un X.fs [] H (upd (upd H dx (exd dx [(f, y)])) a (exo a C (some dx))) hp h2 := by
    constructor
    · exact fun b o z n _ _ => k b o (na n) z
    · exact fun b o z n _ _ => ⟨o.slots, k b o (na n) z⟩
    · exact fun b o z n _ => by rw [upd_ne (na n), upd_ne (nd z)]; exact n
    · intro b o z _
      by_cases hb : b = a
      · subst hb
        exact ⟨_, hx⟩
      · exact ⟨o, k b o hb z⟩
    · exact fun b xs z => by rw [upd_ne (at_ne e z exo_tup), upd_ne (ne_of_none z hnd)]; exact z
    · exact fun b o v z => by rw [upd_ne (at_ne e z exo_frz), upd_ne (ne_of_none z hnd)]; exact z
    · exact fun b ps z => ⟨#[], by rw [upd_ne (at_ne e z exo_tbl), upd_ne (ne_of_none z hnd), z]; simp⟩
  refine h dx _ hnd dne (I.un (t' := t2) U fun b o z => ?_)
  by_cases hb : b = a
  · subst hb
    rw [upd_same] at z
    cases z
    exact exo_ok hx
  rw [upd_ne hb] at z
  by_cases hd : b = dx
  · subst hd
    rw [upd_same] at z
    cases z
    exact exd_ok hn (relO_put (fs := []) ry fun g => True.intro)
  rw [upd_ne hd] at z
  refine (I.hok b o z).stay (fun c v hc y => k c v ?_ y) (fun c hc => ?_) (fun c xs hc => ?_)
  · rcases hc with hc | hc
    · rw [hc]; exact hb
    · exact at_ne e hc exo_own
  · rw [upd_ne (at_ne e hc exo_own), upd_ne (ne_of_none hc hnd)]; exact hc
  · rw [upd_ne (at_ne e hc exo_tup), upd_ne (ne_of_none hc hnd)]; exact hc
/-- B.__init__(self, ..) -/
theorem keep_init {us : List Value} {Q : Value → Shared → Prop} (F : ExcBaseFacts B nid iid bmB) (T : KeepC X.K C bmB nid) (I : Inv X pins σ H s) (e : H a = some (exo a C none)) (hl : us.length ≤ sizeLine) (h : ∀ s2, Inv X pins σ H s2 → Q .none s2) :
    wpAny (model X.prog X.w) A (call (.builtin iid) (.ref a :: us)) Q E s := by
  obtain ⟨nm, q, N, bs, bm, sn, sub, ab, col, dd, k0, k1, k2, k3, k5, hC, hbm⟩ := T.cls
  obtain ⟨t1, ho⟩ := exo_at I.hok e
  obtain ⟨hp, g, d, t, os⟩ := s
  refine wpAny_call (PySem.HandSPX.init_base F hbm (I.kIn _ _ hC) ho hl fun h2 t2 k hx => ?_)
  have J := I.write (t' := t) (x := a) (e := a) (o := exo a C none) (by rw [e]; exact True.intro) (.inl rfl) k ⟨_, hx⟩ (exo_ok hx)
  have eu : upd H a (exo a C none) = H := funext fun b => by
    by_cases hb : b = a
    · rw [hb, upd_same, e]
    · rw [upd_ne hb]
  exact h _ (eu ▸ J)
end
end Z
set_option maxRecDepth 100000
set_option maxHeartbeats 1000000
namespace Z
open PySem PySem.Spec PyProof.Rows L2

/-- B.__init__(self, ..) as an expression; what a base class gives -/
structure KBase (B nid iid : String) (bmB : List Value) : Prop where
  F : ExcBaseFacts B nid iid bmB
  SF : StoreFacts B bmB "object.__setattr__" "object"
  ty : typeOf (.type B) = pure (.type "type")
  st : Manifest.isStub B = false
  hi : PySem.W.handedIn (.builtin iid) = true
  bt : bootBuiltins (Str.ofString B) = some (.type B)
def tBin (K : PySem.W.Frag) (bmB : List Value) (nid : String) (ta : TA) : TE := fun σ H Q => ta σ H fun vs H1 => ∃ (a C : Addr) (ws : List V), vs = .ref a :: ws ∧ ws.length ≤ 1000 ∧ KeepC K C bmB nid ∧ H1 a = some (exo a C none) ∧ Q .non H1
def tKst (K : PySem.W.Frag) (bmB : List Value) (nid : String) (f : Str) (to te : TE) : TS := fun D σ H => te σ H fun y H1 => to σ H1 fun x H2 => ∃ a C : Addr, x = .ref a ∧ KeepC K C bmB nid ∧ PySem.W.findIn K (.ref C) f = some none ∧
  H2 a = some (exo a C none) ∧ ∀ dx, H2 dx = none → dx ≠ a → D.nx σ (upd (upd H2 dx (exd dx [(f, y)])) a (exo a C (some dx)))
section
variable {X : Cx} {o e : Expr} {es : List Expr} {to te : TE} {ta : TA} {f x : Str} {p p' p1 p2 pos : Pos} {B nid iid : String} {bmB : List Value}
theorem pe_binit {pl : Sem Bool} (KB : KBase B nid iid bmB) (hg : Gl X (Str.ofString B)) (hm : X.mg (Str.ofString B) = none) (vV : PySem.W.findCls X.K (.type B) (.type "type") "__init__" = some (.val (.builtin iid))) (ha : PA X (e :: es) ta)
    (hn : Str.ofString B ≠ "__name__" := by decide) (hdb : (Str.ofString B == ("__debug__" : Str)) = false := by decide)
    (hc : eval (.Call (.Attribute (.Name (Str.ofString B) p1) "__init__" p2) (e :: es) [] pos) X.env = (do
      let ov ← eval (.Name (Str.ofString B) p1) X.env
      standAt p2.atName
      let (m, fst) ← holding [ov] (getMethod ov "__init__" pl)
      callWith pos m fst (backTo pos (starEach (e :: es) X.env)) (backToKw pos (keywordEach [] X.env))) := by rfl)
    (he : starEach (e :: es) X.env = (false, eval e X.env) :: starEach es X.env := by rfl) (hpl : (backTo pos (starEach es X.env)).any (·.1) = false := by rfl) :
    PE X (.Call (.Attribute (.Name (Str.ofString B) p1) "__init__" p2) (e :: es) [] pos) (tBin X.K bmB nid ta) := by
  refine ⟨fun pins s σ H Q I h => ?_⟩
  refine PySem.W.methodCall_KW (ld_blt I hg hm KB.bt ?_ hn hdb) hc
  obtain ⟨m, fr⟩ := I.fr
  refine PySem.W.method_type fr I.ok.mod.kin KB.ty KB.st vV KB.hi ?_
  show wpAny _ _ (callWith pos (Value.builtin iid) [] (backTo pos (starEach (e :: es) X.env)) []) _ _ _
  refine PyProof.Rows.callWith_method1 (thn (ha.run pos pins _ σ H _ (I.tok _) h) fun us s1 ⟨vs, H1, I1, r1, a, C, ws, ev, hl, T, ea, q⟩ => ?_) he hpl
  subst ev
  cases r1 with
  | @cons _ u0 _ ur ra rw2 =>
    obtain rfl : u0 = Value.ref a := ra
    have hlen : ur.length ≤ sizeLine := Nat.le_trans (Nat.le_of_eq (Paired.length rw2).symm) (Nat.le_trans hl (by decide))
    exact keep_init KB.F T I1 ea hlen fun s2 J => ⟨.non, H1, J, rfl, q⟩
theorem ps_kst (SF : StoreFacts B bmB "object.__setattr__" "object") (ho : PE X o to) (he : PE X e te) (hs : swapsWith e (some (.Attribute o f p')) pos.line X.env = pure false := by rfl) : PS X (.Assign [.Attribute o f p'] e pos) (tKst X.K bmB nid f to te) := by
  refine ⟨fun pins s σ H D I h => ?_⟩
  refine plainObj_wpAny_Assign_Attribute (thn (he.run pins s σ H _ I h) fun v s1 ⟨y, H1, I1, r1, q1⟩ => thn (ho.run pins s1 σ H1 _ I1 q1) fun u s2 ⟨x2, H2, I2, r2, a, C, ex, T, hno, ea, q⟩ => ?_) hs
  subst ex
  obtain rfl : u = Value.ref a := r2
  exact keep_set SF T I2 ea hno r1 fun dx s3 n ne J => ⟨σ, _, J, q dx n ne⟩
end
/-- the promise of such an __init__ -/
def spKeep (C : Addr) (f : Str) : Sp := fun vs H Q _ => ∃ (a : Addr) (v : V), vs = [.ref a, v] ∧ H a = some (exo a C none) ∧ ∀ dx, H dx = none → dx ≠ a → Q .non (upd (upd H dx (exd dx [(f, v)])) a (exo a C (some dx)))
section
variable {P : Program} {w : World} {K : PySem.W.Frag} {mg : Str → Option Value} {base : Heap} {B nid iid : String} {bmB : List Value}
/-- def __init__(self, v): B.__init__(self, v); self.f = v -/
theorem fn_keep {fI C : Addr} {qual : Str} {params : Arguments} {scope : Scope} {dV kV doc pm cdv ct oc : Value} {an od : Option Addr} {osl : Array (Option Value)} {sf vn f : Str} {p1 p2 p3 p4 p5 p6 p7 p8 p9 p10 : Pos}
    (KB : KBase B nid iid bmB) (T : KeepC K C bmB nid) (hno : PySem.W.findIn K (.ref C) f = some none) (vV : PySem.W.findCls K (.type B) (.type "type") "__init__" = some (.val (.builtin iid))) (hmB : mg (Str.ofString B) = none)
    (lk : K.lookup fI = some ⟨oc, od, .func (PySem.W.fnOf "__init__" qual params [.Expr (.Call (.Attribute (.Name (Str.ofString B) p1) "__init__" p2) [.Name sf p3, .Name vn p4] [] p5) p6, .Assign [.Attribute (.Name sf p7) f p8] (.Name vn p9) p10] scope dV kV doc pm an cdv ct), osl⟩)
    (hcd : PySem.W.codeIn K cdv qual = true) (S : FnScope [sf, vn] [sf, vn] scope) (hgB : scope.names.lookup (Str.ofString B) = some .globalImplicit) (hsf : scope.names.lookup sf = some .local) (hvn : scope.names.lookup vn = some .local)
    (hc : ∀ env : Env, env.scope = scope → ∃ pl : Sem Bool, eval (.Call (.Attribute (.Name (Str.ofString B) p1) "__init__" p2) [.Name sf p3, .Name vn p4] [] p5) env = (do
      let ov ← eval (.Name (Str.ofString B) p1) env
      standAt p2.atName
      let (m, fst) ← holding [ov] (getMethod ov "__init__" pl)
      callWith p5 m fst (backTo p5 (starEach [.Name sf p3, .Name vn p4] env)) (backToKw p5 (keywordEach [] env))))
    (hn : Str.ofString B ≠ "__name__" := by decide) (hdb : (Str.ofString B == ("__debug__" : Str)) = false := by decide)
    (d1 : (sf == ("__debug__" : Str)) = false := by decide) (d2 : (sf == ("__classdict__" : Str)) = false := by decide) (d3 : (vn == ("__debug__" : Str)) = false := by decide) (d4 : (vn == ("__classdict__" : Str)) = false := by decide) :
    FnOk P w K mg base C8.CX0 1 fI (PySem.W.fnOf "__init__" qual params [.Expr (.Call (.Attribute (.Name (Str.ofString B) p1) "__init__" p2) [.Name sf p3, .Name vn p4] [] p5) p6, .Assign [.Attribute (.Name sf p7) f p8] (.Name vn p9) p10] scope dV kV doc pm an cdv ct) [sf, vn] (spKeep C f) := by
  refine fn_of lk hcd S (fun vs H Q E ⟨a, v, e, _⟩ => by rw [e]; rfl) fun A outer s H vs Q E hr ⟨a, v, e, ea, q⟩ => ?_
  subst e
  obtain ⟨pl, hc⟩ := hc (cxOf C8.CX0 P w K mg base [sf, vn] qual scope fI cdv A outer s H E).env rfl
  refine ⟨_, pss_cons (ps_expr (pe_binit (pl := pl) KB (hgB) hmB vV (pa_cons (pe_var (i := 0) rfl (.inl hsf) d1 d2) (pa_cons (pe_var (i := 1) rfl (.inl hvn) d3 d4) pa_nil)) hn hdb hc)) (pss_one (ps_kst (nid := nid) KB.SF (pe_var (i := 0) rfl (.inl hsf) d1 d2) (pe_var (i := 1) rfl (.inl hvn) d3 d4))), ?_⟩
  refine ⟨.ref a, rfl, v, rfl, a, C, [v], rfl, by simp, T, ea, ?_⟩
  exact ⟨v, rfl, .ref a, rfl, a, C, rfl, T, hno, ea, fun dx n ne => q dx n ne⟩
end
/-- C(e): an own exception that keeps e's value -/
def tKeep (C : Addr) (f : Str) (ta : TA) : L2.St → Hp → XK → Prop := fun σ H Q => ta σ H fun vs H1 => ∃ v, vs = [v] ∧ ∀ d, H1 d = none → Q (.ref C) (some d) (upd H1 d (.xd [(f, v)]))
theorem pmk_keep {X : Cx} {x f : Str} {C fI : Addr} {k : Nat} {fd : FuncData} {ps : List Str} {ta : TA} {e : Expr} {es : List Expr} {p pos : Pos} {B nid iid : String} {bmB : List Value} (KB : KBase B nid iid bmB) (T : KeepC X.K C bmB nid) (iC : PySem.W.findIn X.K (.ref C) "__init__" = some (some (.ref fI))) (tI : PySem.W.typeIn X.K (.ref fI) = some (.type "function"))
    (F1 : FnOk X.prog X.w X.K X.mg X.base C8.CX0 k fI fd ps (spKeep C f)) (hr : Room (k + 1) X.A) (hb : Binds X.K fd ps []) (hg : Gl X x) (hm : X.mg x = some (.ref C)) (ha : PA X (e :: es) ta)
    (hdb : (x == ("__debug__" : Str)) = false := by decide) (hs : starEach (e :: es) X.env = (false, eval e X.env) :: starEach es X.env := by rfl) (hpl : (backTo pos (starEach es X.env)).any (·.1) = false := by rfl) :
    PMk X (.Call (.Name x p) (e :: es) [] pos) (tKeep C f ta) := by
  intro pins s σ H Q I h
  obtain ⟨nm, q, N, bs, bm, sn, sub, ab, col, dd, k0, k1, k2, k3, k5, hC, hbm⟩ := T.cls
  refine wpAny_Call_Name_kw (ld_glob I hg hm ?_ hdb)
  refine PySem.W.callWith_K (h₀ := X.base) I.ok.mod.kin T.kC (thn (ha.run pos pins s σ H _ I h) fun us s1 ⟨vs, H1, I1, r1, v, ev, q1⟩ => ⟨I1.kIn, ?_⟩) hs hpl
  subst ev
  cases r1 with
  | @cons _ u _ ur rv rn =>
  cases rn
  show wpAny _ _ (call (.ref C) [u]) _ _ _
  obtain ⟨hp, g, dr, tk, os⟩ := s1
  have hz : hp.objs.size ≤ hp.objs.size + 1 := Nat.le_succ _
  generalize ha0 : hp.objs.size + 1 = a0 at hz
  have hn : H1 a0 = none := I1.hok.fresh hz
  have kk : ∀ b o, hp.get? b = some o → ((hp.push (PySem.W.kdv_tup [u])).push (PySem.HandSPX.excO C hp.objs.size)).get? b = some o := fun b o z => Heap.get?_push_of_some _ (Heap.get?_push_of_some _ z)
  have hget : ((hp.push (PySem.W.kdv_tup [u])).push (PySem.HandSPX.excO C hp.objs.size)).get? a0 = some (PySem.HandSPX.excO C hp.objs.size) := by
    subst ha0
    heap_get
  have I2 : Inv X pins σ (upd H1 a0 (exo a0 C none)) ⟨(hp.push (PySem.W.kdv_tup [u])).push (PySem.HandSPX.excO C hp.objs.size), g, dr, tk, os⟩ :=
    I1.laid (t' := tk) (a := a0) (o := exo a0 C none) kk hz (exo_ok hget)
  have hsp : spKeep C f [.ref a0, v] (upd H1 a0 (exo a0 C none)) (fun r H2 => r = .non ∧ ∃ d, H1 d = none ∧ d ≠ a0 ∧ H2 = upd (upd (upd H1 a0 (exo a0 C none)) d (exd d [(f, v)])) a0 (exo a0 C (some d))) C8.E0 :=
    ⟨a0, v, rfl, upd_same, fun d nd ne => ⟨rfl, d, by rwa [upd_ne ne] at nd, ne, rfl⟩⟩
  have r2 : Vals [V.ref a0, v] [Value.ref a0, u] := .cons rfl (.cons rv .nil)
  have hl : [Value.ref a0, u].length = ps.length := (F1.len _ _ _ _ hsp).symm ▸ rfl
  refine wpAny_call (PySem.HandSPX.call_own KB.F hbm (I1.kIn _ _ hC) (PySem.W.looks_findIn I1.kIn iC) (fun self => PySem.W.bind_fn I1.kIn self tI) (by simp [sizeLine_eq]) ?_)
  rw [show (⟨hp, g, dr, tk, os⟩ : Shared).heap.objs.size + 1 = a0 from ha0]
  refine codeAny_mono (F1.run _ X.stack _ _ ⟨[Value.ref a0, u], []⟩ [Value.ref a0, u] _ _ C8.E0 (hr.make C [u] []) (I2.env0.make C [u] []) (hb _ [Value.ref a0, u] I2.kIn hl) r2 hsp) fun r s2 hq => ?_
  cases r with
  | error er => exact hq.elim
  | ok fl =>
    cases fl with
    | next => exact hq.elim
    | brk => exact hq.elim
    | cont => exact hq.elim
    | ret u2 =>
      obtain ⟨v2, H2, os2, bare2, un2, hok2, rv2, ev, d, hd1, hne, eH⟩ := hq
      subst ev
      obtain ⟨h2, g2, d2, t2, os3⟩ := s2
      have ea : H2 a0 = some (exo a0 C (some d)) := by rw [eH, upd_same]
      have ed : H2 d = some (exd d [(f, v)]) := by rw [eH, upd_ne hne, upd_same]
      refine ⟨rv2, mk_end (raises_own T.exC T.tyC) I1 hz kk un2 hok2 os2 bare2 ea ed hd1 ?_⟩
      have e3 : upd (del H2 a0) d (.xd [(f, v)]) = upd H1 d (.xd [(f, v)]) := funext fun b => by
        by_cases hb1 : b = d
        · rw [hb1, upd_same, upd_same]
        · rw [upd_ne hb1, upd_ne hb1]
          by_cases hb2 : b = a0
          · rw [hb2, del_same, hn]
          · rw [del_ne hb2, eH, upd_ne hb2, upd_ne hb1, upd_ne hb2]
      rw [e3]
      exact q1 d hd1
end Z
set_option maxRecDepth 100000
set_option maxHeartbeats 1000000
namespace Z
open PySem PySem.Spec PyProof.Rows L2
theorem kb_Index : KBase "IndexError" "IndexError.__new__" "IndexError.__init__" [.type "IndexError", .type "LookupError", .type "Exception", .type "BaseException", .type "object"] :=
  ⟨PySem.F.excBase_IndexError, PySem.F.store_IndexError, by kernel_rfl, by decide +kernel, by decide +kernel, by decide +kernel⟩
theorem kb_Lookup : KBase "LookupError" "LookupError.__new__" "LookupError.__init__" [.type "LookupError", .type "Exception", .type "BaseException", .type "object"] :=
  ⟨PySem.F.excBase_LookupError, PySem.F.store_LookupError, by kernel_rfl, by decide +kernel, by decide +kernel, by decide +kernel⟩
theorem kb_Overflow : KBase "OverflowError" "OverflowError.__new__" "OverflowError.__init__" [.type "OverflowError", .type "ArithmeticError", .type "Exception", .type "BaseException", .type "object"] :=
  ⟨PySem.F.excBase_OverflowError, PySem.F.store_OverflowError, by kernel_rfl, by decide +kernel, by decide +kernel, by decide +kernel⟩
theorem kb_Arith : KBase "ArithmeticError" "ArithmeticError.__new__" "ArithmeticError.__init__" [.type "ArithmeticError", .type "Exception", .type "BaseException", .type "object"] :=
  ⟨PySem.F.excBase_ArithmeticError, PySem.F.store_ArithmeticError, by kernel_rfl, by decide +kernel, by decide +kernel, by decide +kernel⟩
theorem kb_Runtime : KBase "RuntimeError" "RuntimeError.__new__" "RuntimeError.__init__" [.type "RuntimeError", .type "Exception", .type "BaseException", .type "object"] :=
  ⟨PySem.F.excBase_RuntimeError, PySem.F.store_RuntimeError, by kernel_rfl, by decide +kernel, by decide +kernel, by decide +kernel⟩
end Z
set_option maxRecDepth 100000
set_option maxHeartbeats 1000000
namespace Z
open PySem PySem.Spec PyProof.Rows L2

/-! ## raise -/
@[simp] def sRaise (n : Str) (e : Ex) (σ : Sg) (S : Sto) : Option Flow := Sm.bnd (e σ S) fun _ S1 => some (.exc ⟨n, none⟩ S1)
@[simp] def sRaiseK (n f : Str) (as : Exs) (σ : Sg) (S : Sto) : Option Flow := Sm.bnd (as σ S) fun xs S1 => match xs with
  | [.d d] => some (.exc ⟨n, some (f, d)⟩ S1)
  | _ => none
/-- a class of errors with a message alone: what is written of it -/
structure MsgC (K : PySem.W.Frag) (mg : Str → Option Value) (n : Str) where
  C : Addr
  nsC : PySem.W.nsIn K mainGlobals n = some (some (.ref C))
  mgC : mg n = some (.ref C)
  ex : PySem.W.excIn K C [.type "ValueError", .type "Exception", .type "BaseException", .type "object"] "ValueError.__new__" = true
  kC : PySem.W.keepIn K (.ref C) = true
  exC : PySem.W.subIn K (.ref C) (.type "BaseException") = some true
  tyC : PySem.W.typeIn K (.ref C) = some (.type "type")
/-- a class of errors that keep one field -/
structure FldC (P : Program) (w : World) (K : PySem.W.Frag) (mg : Str → Option Value) (base : Heap) (n f : Str) where
  C : Addr
  B : String
  nid : String
  iid : String
  bmB : List Value
  nsC : PySem.W.nsIn K mainGlobals n = some (some (.ref C))
  mgC : mg n = some (.ref C)
  KB : KBase B nid iid bmB
  T : KeepC K C bmB nid
  fI : Addr
  iC : PySem.W.findIn K (.ref C) "__init__" = some (some (.ref fI))
  tI : PySem.W.typeIn K (.ref fI) = some (.type "function")
  fd : FuncData
  ps : List Str
  F1 : FnOk P w K mg base C8.CX0 1 fI fd ps (spKeep C f)
  hb : Binds K fd ps []
section
variable {X : Cx} {W : WX} {k : Nat} {a : Expr} {ea : Ex} {es : List Expr} {fs : Exs} {n f : Str} {p0 p1 pos : Pos}
theorem ds_raise (G : Gd X W k) (M : MsgC X.K X.mg n) (ha : DE X W a ea) (hg : Gl X n := by rfl) (hs : starEach [a] X.env = (false, eval a X.env) :: starEach [] X.env := by rfl) (hdb : (n == ("__debug__" : Str)) = false := by decide) :
    DS X W (.Raise (some (.Call (.Name n p0) [a] [] p1)) none pos) (sRaise n ea) :=
  ps_imp (ps_raise G.calm G.tk (SkE.pmk_own1 PySem.F.excBase_ValueError M.ex M.mgC M.kC (raises_own M.exC M.tyC) hg ha hs hdb)) fun D σV H ⟨fo, σ, S, r, hE, hS, hr, hf⟩ => by
    refine TX.stm hE hS hr hf fun v S1 u H1 h1 f1 s1 k1 e1 r1 => ?_
    cases h1
    exact XS.of (σV := σV) f1 _ _ H1 s1 (Kp.refl _ _) ⟨M.nsC, rfl⟩
theorem ds_raiseK (G : Gd X W k) (M : FldC X.prog X.w X.K X.mg X.base n f) (hk : 2 ≤ k) (ha : DA X W (a :: es) fs) (hg : Gl X n := by rfl) (hs : starEach (a :: es) X.env = (false, eval a X.env) :: starEach es X.env := by rfl) (hpl : (backTo p1 (starEach es X.env)).any (·.1) = false := by rfl) (hdb : (n == ("__debug__" : Str)) = false := by decide) :
    DS X W (.Raise (some (.Call (.Name n p0) (a :: es) [] p1)) none pos) (sRaiseK n f fs) :=
  ps_imp (ps_raise G.calm G.tk (pmk_keep M.KB M.T M.iC M.tI M.F1 (G.hr.mono hk) M.hb hg M.mgC ha hdb hs hpl)) fun D σV H ⟨fo, σ, S, r, hE, hS, hr, hf⟩ => by
    refine TXs.stm hE hS hr hf fun xs S1 vs H1 h1 f1 s1 k1 e1 r1 => ?_
    split at h1
    · rename_i d
      cases h1
      cases r1 with
      | cons r2 r3 =>
      cases r3
      refine ⟨_, rfl, fun q nq => ?_⟩
      exact XS.of (σV := σV) f1 _ _ _ (s1.laid nq) (Kp.new nq) ⟨M.nsC, q, _, rfl, upd_same, s1.free nq, Is.keep (Kp.new nq).q (Gr.refl _ _) r2⟩
    · cases h1
end
end Z
set_option maxRecDepth 100000
set_option maxHeartbeats 1000000
namespace Z
open PySem PySem.Spec PyProof.Rows L2

/-! ## try .. except X as n .. except Y as m .. -/
/-- D where slot i is forgotten behind the suite -/
def forget (i : Nat) (D : Ends) : Ends := { nx := fun τ H => D.nx (τ.set i none) H, rt := D.rt, bk := fun τ H => D.bk (τ.set i none) H, ct := fun τ H => D.ct (τ.set i none) H }
structure Cl where
  c : Value
  i : Nat
  ts : Addr → Value → Option Addr → TS
def wCl (K : PySem.W.Frag) (n : Nat) (Wo : WX) (D : Ends) : List Cl → WX
  | [] => Wo
  | q :: r => fun cls d σ H => ∃ b, PySem.W.exmOne K cls q.c = some b ∧ (b = true → σ.length = n → ∀ a, H a = none → q.ts a cls d (forget q.i D) (σ.set q.i (some (.ref a))) H) ∧ (b = false → wCl K n Wo D r cls d σ H)
inductive ClsOk (X : Cx) : List ExceptHandler → List Cl → Prop
  | nil : ClsOk X [] []
  | cons {x n : Str} {q : Cl} {b0 : Stmt} {su : List Stmt} {np hp : Pos} {hds : List ExceptHandler} {l : List Cl} (hc : Names X x q.c) (hi : X.N[q.i]? = some n) (hln : X.env.kindOf n = some .local)
      (hsu : ∀ (a : Addr) (oe : Obj) (cls : Value) (d : Option Addr) (pn : List (Addr × Obj)), Zc cls d oe → (∃ vs, oe.data = .fields vs) → PSs (X.suite a ((a, oe) :: pn)) (b0 :: su) (q.ts a cls d)) (r : ClsOk X hds l) :
      ClsOk X (.ExceptHandler (some (.Name x np)) (some n) (b0 :: su) hp :: hds) (q :: l)
section
variable {X : Cx} {pins : List (Addr × Obj)} {σ σ1 : L2.St} {H H1 : Hp} {s s1 sI : Shared} {B : Heap} {a : Addr} {cls : Value} {d : Option Addr} {D : Ends} {Wo : WX}
/-- the exception goes on -/
theorem goes_on (hs : X.stack = X.env :: X.outer) (hf : X.env.frame = some X.env.locals) (tk : Takes X Wo) (J : Inv X pins σ1 H1 sI) (nb : ∀ b o, sI.heap.get? b = some o → b ∉ frs X.stack → B.get? b = some o) {h3 : Heap} (up : sI.heap.UpToSlots h3)
    (fl : HandSPX.FlyingZ B (X.env :: X.outer) a (Zc cls d) h3) (na : H1 a = none) (os : s1.os = sI.os) (ag : AllBare s1.gens) (w : Wo cls d σ1 H1) : wpAny (model X.prog X.w) X.A (handleBy (.ref a) X.env []) (SP X pins D) X.xe { s1 with heap := h3 } := by
  refine wpAny_handleBy_nil ?_
  obtain ⟨_, _, _, oe, vs, T, oT, ts2, he, hz, hd, e1, hr⟩ := id fl
  unfold PySem.passOn
  refine wpAny_bind (wpAny_field he hd e1 ?_)
  rw [if_neg (show ¬ ((Value.ref T == Value.none) = true) from by simp)]
  have last : wpAny (model X.prog X.w) X.A (setFlight (.ref a) X.env.frame) (fun _ s4 => wpAny (model X.prog X.w) X.A (throw (.ref a) : Sem PySem.Flow) (SP X pins D) X.xe s4) X.xe { s1 with heap := h3 } := by
    rw [hf]
    refine HandSPX.setFlight_upZ fl fun h4 hh4 up4 => wpAny_throw (tk _ _ ?_)
    exact ⟨a, B, sI, pins, σ1, H1, cls, d, rfl, J, nb, up.trans up4, .inr (.inr (hs ▸ hh4)), na, os, ag, w⟩
  first
    | exact wpAny_bind (wpAny_pure (wpAny_bind last))
    | exact wpAny_bind last
theorem ps_clauses {body : List Stmt} {h0 : ExceptHandler} {hds : List ExceptHandler} {l : List Cl} {pos : Pos} {tb : WX → TS} (hs : X.stack = X.env :: X.outer) (hf : X.env.frame = some X.env.locals) (hN : X.N.Nodup) (tk : Takes X Wo)
    (hb : ∀ (W : WX) (pn : List (Addr × Obj)) (xe : Value → Shared → Prop), Takes (X.tr pn xe) W → PassesOwn (model X.prog X.w) X.A X.env xe → PSs (X.tr pn xe) body (tb W))
    (hh : ClsOk X (h0 :: hds) l) : PS X (.Try body (h0 :: hds) [] [] pos) (fun D σ H => tb (wCl X.K X.N.length Wo D l) D σ H) := by
  refine ⟨fun pins s σ H D I h => ?_⟩
  have ok := I.ok
  have hfr : X.A.frames = some (X.env :: X.outer) := by rw [ok.frames, hs]
  refine wpAny_Try_except ?_
  have run := (hb (wCl X.K X.N.length Wo D l) (X.pn ++ pins) (fun e s1 => wpAny (model X.prog X.w) X.A (noteFrame e X.env) (fun _ s2 => wpAny (model X.prog X.w) X.A (setFlight e none) (fun _ s3 => wpAny (model X.prog X.w) X.A (handleBy e X.env (h0 :: hds)) (SP X pins D) X.xe s3) X.xe s2) X.xe s1) (fun u s2 xx => ?_) PassesOwn.looking).run [] s σ H D (I.toTry _) h
  · refine wpAny_mono run (fun fl s1 hsp => ?_) (fun e s1 he => he)
    cases fl with
    | next =>
      obtain ⟨τ, H2, J, q⟩ := hsp
      exact wpAny_execs_nil ⟨τ, H2, J.ofTry ok, q⟩
    | brk =>
      obtain ⟨τ, H2, J, q⟩ := hsp
      exact ⟨τ, H2, J.ofTry ok, q⟩
    | cont =>
      obtain ⟨τ, H2, J, q⟩ := hsp
      exact ⟨τ, H2, J.ofTry ok, q⟩
    | ret u =>
      obtain ⟨v, τ, H2, J, r, q⟩ := hsp
      exact ⟨v, τ, H2, J.ofTry ok, r, q⟩
  obtain ⟨a, B, sI, pn2, σ1, H1, cls, d, rfl, J2, nb, up, sky, na, os, ag, w⟩ := xx
  have J : Inv X pins σ1 H1 sI := J2.ofTry ok
  show wpAny (model X.prog X.w) X.A (noteFrame (.ref a) X.env) _ _ _
  have sky2 : Sky B (X.env :: X.outer) a (Zc cls d) X.env.locals s2.heap := hs ▸ sky
  refine Sky.land Zc.steady hfr hf sky2 fun h3 fl3 up3 => ?_
  have J3 : Inv X pins σ1 H1 { s2 with heap := h3 } := J.landed nb fl3.1 (up.trans up3) os ag
  obtain ⟨oe3, vs3, he3, hz3, hd3⟩ := fl3.there
  have nfr : a ∉ frs (X.env :: X.outer) := fun hm => by
    obtain ⟨_, o2, e2, hnf⟩ := fl3.2.2.1.mem hm
    rw [he3] at e2
    cases e2
    exact hnf _ hd3
  have nL : a ≠ X.env.locals := fun z => nfr (List.mem_filterMap.mpr ⟨X.env, List.mem_cons_self, z ▸ hf⟩)
  have nF : a ∉ X.fs := fun hm => by
    obtain ⟨e, he, q⟩ := List.mem_filterMap.mp hm
    exact nfr (List.mem_filterMap.mpr ⟨e, List.mem_cons_of_mem _ he, q⟩)
  have S3 := J3.suite he3 hd3 na nL nF
  have LT : PySem.W.Looks (model X.prog X.w) h3 (typeOf (.ref a)) cls := fun A Q E s k q => wpAny_typeOf_ref (k _ _ he3) (by rw [hz3.1]; exact q)
  have go : ∀ {hs2 : List ExceptHandler} {l2 : List Cl}, ClsOk X hs2 l2 → wCl X.K X.N.length Wo D l2 cls d σ1 H1 → wpAny (model X.prog X.w) X.A (handleBy (.ref a) X.env hs2) (SP X pins D) X.xe { s2 with heap := h3 } := by
    intro hs2 l2 hk
    induction hk with
    | nil => exact fun w => goes_on hs hf tk J nb (up.trans up3) fl3 na os ag w
    | @cons x n q b0 su np hp hds3 l3 hc hi hln hsu r ih =>
      rintro ⟨b, hb1, hyes, hno⟩
      refine wpAny_handleBy_cons (codeAny_handlers_test ?_) (by intro z; cases z)
      have test : ∀ {Q : Value → Shared → Prop} {E : Value → Shared → Prop}, Q q.c { s2 with heap := h3 } → wpAny (model X.prog X.w) (X.A.mark (some (.ref a))) (eval (.Name x np) X.env) Q E { s2 with heap := h3 } := fun {Q E} z => by
        obtain ⟨hg, hdb, hm | ⟨hm, hv, hnn⟩⟩ := hc
        · exact ld_glob (X := X.suite a ((a, oe3) :: (X.pn ++ pins))) S3 hg hm z hdb
        · exact ld_blt (X := X.suite a ((a, oe3) :: (X.pn ++ pins))) S3 hg hm hv z hnn hdb
      refine test ((PySem.W.exm_one (M := model X.prog X.w) (J3.kIn) LT hb1).here ?_)
      cases b with
      | false =>
        show wpAny _ X.A (handleBy (.ref a) X.env hds3) _ _ _
        exact ih (hno rfl)
      | true =>
        refine codeAny_handlers_suite_as ?_
        refine HandSPX.lands_againZ fl3 fun h4 fl4 up4 => ?_
        have J4 : Inv X pins σ1 H1 { s2 with heap := h4 } := J.landed nb fl4.1 ((up.trans up3).trans up4) os ag
        obtain ⟨oe4, vs4, he4, hz4, hd4⟩ := fl4.there
        have S4 := J4.suite he4 hd4 na nL nF
        refine store_ok (X := X.suite a ((a, oe4) :: (X.pn ++ pins))) (v := .ref a) S4 hN hi (.inl hln) rfl (fun s5 S5 => ?_) (.inr hln)
        refine wpAny_mono ((hsu a oe4 cls d (X.pn ++ pins) hz4 ⟨_, hd4⟩).run [] s5 _ H1 _ S5 (hyes rfl J.len a na)) (fun fl s6 hsp => ?_) (fun _ _ z => z.elim)
        have ended : ∀ {τ : L2.St} {H6 : Hp} {Q : Shared → Prop}, Inv (X.suite a ((a, oe4) :: (X.pn ++ pins))) [] τ H6 s6 → (∀ s7, Inv X pins (τ.set q.i none) H6 s7 → Q s7) →
            wpAny (model X.prog X.w) X.A (do bindName X.env n .none; unbindBehindTheSuite X.env n hp) (fun _ s7 => Q s7) X.xe s6 := fun {τ H6 Q} S6 hq => gone_ok (S6.unsuite ok) hN hi hln hq
        cases fl with
        | next =>
          obtain ⟨τ, H6, S6, q6⟩ := hsp
          exact ended S6 fun s7 J7 => ⟨_, _, J7, q6⟩
        | brk =>
          obtain ⟨τ, H6, S6, q6⟩ := hsp
          exact ended S6 fun s7 J7 => ⟨_, _, J7, q6⟩
        | cont =>
          obtain ⟨τ, H6, S6, q6⟩ := hsp
          exact ended S6 fun s7 J7 => ⟨_, _, J7, q6⟩
        | ret u =>
          obtain ⟨v6, τ, H6, S6, r6, q6⟩ := hsp
          exact ended S6 fun s7 J7 => ⟨_, _, _, J7, r6, q6⟩
  exact go hh w
end
end Z
set_option maxRecDepth 100000
set_option maxHeartbeats 1000000
namespace Z
open PySem PySem.Spec PyProof.Rows L2

/-! ## try, by meanings -/
structure CD where
  i : Nat
  sub : Str → Option Bool
  m : Addr → Value → Option Addr → Sm
def forgetF (i : Nat) : Flow → Option Flow
  | .nx τ S => some (.nx (τ.set i none) S)
  | .bk τ S => some (.bk (τ.set i none) S)
  | .ct τ S => some (.ct (τ.set i none) S)
  | .rt v S => some (.rt v S)
  | .exc _ _ => none
open Classical in
/-- a suite, whatever address the error has -/
noncomputable def runK (n i : Nat) (m : Addr → Value → Option Addr → Sm) (x : Exn) (S : Sto) : Option Flow :=
  if h : ∃ r, ∀ a cls d, (m a cls d ((List.replicate n none).set i (some (.k a x cls d))) S).bind (forgetF i) = some r then some h.choose else none
theorem runK_eq {n i : Nat} {m : Addr → Value → Option Addr → Sm} {x : Exn} {S : Sto} {r : Flow} (h : ∀ a cls d, (m a cls d ((List.replicate n none).set i (some (.k a x cls d))) S).bind (forgetF i) = some r) : runK n i m x S = some r := by
  have e : ∃ r, ∀ a cls d, (m a cls d ((List.replicate n none).set i (some (.k a x cls d))) S).bind (forgetF i) = some r := ⟨r, h⟩
  unfold runK
  rw [dif_pos e]
  have h2 := e.choose_spec (0 : Nat) .none none
  rw [h] at h2
  exact h2.symm
theorem runK_at {n i : Nat} {m : Addr → Value → Option Addr → Sm} {x : Exn} {S : Sto} {r : Flow} (h : runK n i m x S = some r) (a : Addr) (cls : Value) (d : Option Addr) : (m a cls d ((List.replicate n none).set i (some (.k a x cls d))) S).bind (forgetF i) = some r := by
  unfold runK at h
  split at h
  · rename_i e
    cases h
    exact e.choose_spec a cls d
  · cases h
noncomputable def pickC (n : Nat) (x : Exn) (S : Sto) : List CD → Option Flow
  | [] => some (.exc x S)
  | q :: r => match q.sub x.cls with
    | some true => runK n q.i q.m x S
    | some false => pickC n x S r
    | none => none
@[simp] noncomputable def sTry (n : Nat) (body : Sm) (l : List CD) (σ : Sg) (S : Sto) : Option Flow := match body σ S with
  | some (.exc x S1) => pickC n x S1 l
  | r => r
inductive ClsD (X : Cx) : List ExceptHandler → List CD → Prop
  | nil : ClsD X [] []
  | cons {x nm : Str} {c : Value} {q : CD} {b0 : Stmt} {su : List Stmt} {np hp : Pos} {hds : List ExceptHandler} {l : List CD} (hc : Names X x c) (hi : X.N[q.i]? = some nm) (hln : X.env.kindOf nm = some .local)
      (hk : ∀ y cls b, PySem.W.nsIn X.K mainGlobals y = some (some cls) → q.sub y = some b → PySem.W.exmOne X.K cls c = some b)
      (hsu : ∀ (a : Addr) (oe : Obj) (cls : Value) (d : Option Addr) (pn : List (Addr × Obj)), Zc cls d oe → (∃ vs, oe.data = .fields vs) → DB (X.suite a ((a, oe) :: pn)) W0 (b0 :: su) (q.m a cls d)) (r : ClsD X hds l) :
      ClsD X (.ExceptHandler (some (.Name x np)) (some nm) (b0 :: su) hp :: hds) (q :: l)
theorem EnvR.drop {K : PySem.W.Frag} {f : Ow} {H : Hp} {τV : L2.St} {τ : Sg} (h : EnvR K f H τV τ) (i : Nat) : EnvR K f H (τV.set i none) (τ.set i none) :=
  ⟨by rw [List.length_set, List.length_set]; exact h.len, fun j x e => by
    by_cases hj : i = j
    · subst hj
      by_cases hl : i < τ.length
      · rw [List.getElem?_set_self hl] at e
        cases e
      · rw [List.getElem?_eq_none (by rw [List.length_set]; omega)] at e
        cases e
    · rw [List.getElem?_set_ne hj] at e ⊢
      exact h.get j x e⟩
section
variable {X : Cx} {W : WX} {k : Nat}
theorem EnvR.only {K : PySem.W.Frag} {f : Ow} {H : Hp} {τV : L2.St} {n i : Nat} {a : Addr} {x : Exn} {cls : Value} {d : Option Addr} (hl : τV.length = n) (hi : i < n) (h : ExR K f H cls d x) :
    EnvR K f H (τV.set i (some (.ref a))) ((List.replicate n none).set i (some (.k a x cls d))) :=
  ⟨by simp [hl], fun j y e => by
    by_cases hj : i = j
    · subst hj
      rw [List.getElem?_set_self (by simpa using hi)] at e
      cases e
      exact ⟨_, List.getElem?_set_self (by omega), rfl, h⟩
    · rw [List.getElem?_set_ne hj, List.getElem?_replicate] at e
      split at e <;> cases e⟩
theorem ds_try {body : List Stmt} {mb : Sm} {h0 : ExceptHandler} {hds : List ExceptHandler} {l : List CD} {pos : Pos} (G : Gd X W k) (hs : X.stack = X.env :: X.outer) (hf : X.env.frame = some X.env.locals)
    (hb : ∀ (W2 : WX) (pn : List (Addr × Obj)) (xe : Value → Shared → Prop), Gd (X.tr pn xe) W2 k → DB (X.tr pn xe) W2 body mb) (hh : ClsD X (h0 :: hds) l) : DS X W (.Try body (h0 :: hds) [] [] pos) (sTry X.N.length mb l) := by
  have conv : ∀ {hs : List ExceptHandler} {l : List CD}, ClsD X hs l → ∃ l2 : List Cl, ClsOk X hs l2 ∧ ∀ (f : Ow) (H H2 : Hp) (D : Ends) (x : Exn) (S1 : Sto) (r : Flow) (ex : List Addr) (cls : Value) (d : Option Addr) (σV : L2.St), pickC X.N.length x S1 l = some r → Fl X W f H D r →
      (∀ a ∈ ex, H a = none) → StoR X.K (f.add ex) S1 H2 → Kp f H H2 → ExR X.K (f.add ex) H2 cls d x → wCl X.K X.N.length W D l2 cls d σV H2 := by
    intro hs l h
    induction h with
    | nil => exact ⟨[], .nil, fun f H H2 D x S1 r ex cls d σV e hf n1 s1 k1 r1 => by
        cases e
        exact hf ex cls d σV H2 n1 s1 k1 r1⟩
    | @cons x0 nm c q b0 su np hp hds l hc hi hln hk hsu r ih =>
      obtain ⟨l2, h1, h2⟩ := ih
      refine ⟨⟨c, q.i, fun a cls d => TS_ X W0 (q.m a cls d)⟩ :: l2, .cons hc hi hln (fun a oe cls d pn hz hv => hsu a oe cls d pn hz hv) h1, fun f H H2 D x S1 r ex cls d σV e hf n1 s1 k1 r1 => ?_⟩
      unfold pickC at e
      cases eb : q.sub x.cls with
      | none => rw [eb] at e; cases e
      | some b =>
      rw [eb] at e
      refine ⟨b, hk _ _ _ r1.1 eb, fun hb hl a na => ?_, fun hb => ?_⟩
      · subst hb
        have e := runK_at e a cls d
        cases e2 : q.m a cls d ((List.replicate X.N.length none).set q.i (some (.k a x cls d))) S1 with
        | none => rw [e2] at e; cases e
        | some r2 =>
        rw [e2] at e
        refine ⟨f.add ex, _, S1, r2, EnvR.only hl (List.getElem?_eq_some_iff.mp hi).1 r1, s1, e2, ?_⟩
        have hf2 := Fl.step hf n1 s1 k1
        cases r2 with
        | nx τ S2 =>
          cases e
          exact fun ex2 τV H3 n3 s3 k3 e3 => hf2 ex2 _ H3 n3 s3 k3 (e3.drop _)
        | bk τ S2 =>
          cases e
          exact fun ex2 τV H3 n3 s3 k3 e3 => hf2 ex2 _ H3 n3 s3 k3 (e3.drop _)
        | ct τ S2 =>
          cases e
          exact fun ex2 τV H3 n3 s3 k3 e3 => hf2 ex2 _ H3 n3 s3 k3 (e3.drop _)
        | rt v S2 =>
          cases e
          exact hf2
        | exc y S2 => cases e
      · subst hb
        exact h2 f H H2 D x S1 r ex cls d σV e hf n1 s1 k1 r1
  obtain ⟨l2, h1, h2⟩ := conv hh
  refine ps_imp (ps_clauses hs hf G.nd G.tk (tb := fun W2 => TS_ X W2 mb) (fun W2 pn xe tk po => hb W2 pn xe ⟨G.hr, G.gd, G.calm, G.nd, tk, po⟩) h1) fun D σV H ⟨f, σ, S, r, hE, hS, hr, hf⟩ => ?_
  unfold sTry at hr
  cases e : mb σ S with
  | none => rw [e] at hr; cases hr
  | some r0 =>
  rw [e] at hr
  refine ⟨f, σ, S, r0, hE, hS, e, ?_⟩
  cases r0 with
  | exc x S1 => exact fun ex cls d σV2 H2 n1 s1 k1 r1 => h2 f H H2 D x S1 r ex cls d σV2 hr hf n1 s1 k1 r1
  | nx => cases hr; exact hf
  | rt => cases hr; exact hf
  | bk => cases hr; exact hf
  | ct => cases hr; exact hf
end
end Z
set_option maxRecDepth 100000
set_option maxHeartbeats 1000000
namespace Z
open PySem PySem.Spec PyProof.Rows L2

/-! ## what a suite may ask of the caught error -/
theorem Gd.suite {X : Cx} {W : WX} {k : Nat} (g : Gd X W k) (a : Addr) (pn : List (Addr × Obj)) : Gq (X.suite a pn) := ⟨g.q.un, g.gd, g.nd⟩
/-- a class of errors as isinstance asks its instances -/
structure IsC (K : PySem.W.Frag) (D : Addr) : Prop where
  cl : (PySem.W.clsIn K D).isSome = true
  ga : PySem.W.findIn K (.ref D) "__getattribute__" = some (some (.builtin "BaseException.__getattribute__"))
  gg : PySem.W.findIn K (.ref D) "__getattr__" = some none
  sb : PySem.W.subIn K (.ref D) (.type "BaseException") = some true
  hd : PySem.W.hasDictIn K D = true
  ha : PySem.W.findIn K (.ref D) "__class__" = some (some (.builtin "object.__class__"))
  hn : PySem.W.specialIn K (.builtin "object.__class__") "__get__" = some (some (.builtin "getset_descriptor.__get__"))
  ht : PySem.W.takesIn K (.builtin "object.__class__") = some true
  hm : PySem.W.mroIn K D (.type "object") = some true
/-- a class as a value -/
def ClV (c : V) (cv : Value) : Prop := ∀ u, RelV c u → u = cv
def rIsX (K : PySem.W.Frag) (a : Addr) (cls : Value) (d : Option Addr) : List V → Hp → VK → Prop := fun xs H Q => ∃ (D : Addr) (c : V) (cv : Value) (b : Bool), xs = [.ref a, c] ∧ cls = .ref D ∧ IsC K D ∧ ClV c cv ∧ PySem.W.kitOne K (.ref D) cv = some b ∧ (d = none ∨ ∃ da fs, d = some da ∧ H da = some (.xd fs)) ∧ Q (.bl b) H
theorem call_isX {X : Cx} {a : Addr} {oe : Obj} {cls : Value} {d : Option Addr} {pn : List (Addr × Obj)} (hz : Zc cls d oe) (hf : ∃ vs, oe.data = .fields vs) : CallR (X.suite a ((a, oe) :: pn)) (.builtin "isinstance") (rIsX X.K a cls d) := by
  intro pins s σ H xs us Q I r ⟨D, c, cv, b, e1, e2, T, hcv, hk, hd, q⟩
  subst e1 e2
  cases r with
  | cons rx rr =>
  cases rr with
  | cons rt rr =>
  cases rr
  cases rx
  have ec := hcv _ rt
  subst ec
  obtain ⟨hget, _⟩ := I.pin (a, oe) (List.mem_append.mpr (.inl List.mem_cons_self))
  obtain ⟨vs, hv⟩ := hf
  have J : ∃ od, PySem.W.InstAt s.heap a oe D od := by
    rcases hd with hd | ⟨da, fs, hd, hH⟩
    · subst hd
      exact ⟨none, hget, hz.1, by unfold PySem.W.notCls; rw [hv] <;> rfl, by rw [hz.2]; exact trivial⟩
    · subst hd
      obtain ⟨mA, hns, _⟩ : ObjOk X.prog X.w H s.heap da (.xd fs) := I.hok da _ hH
      obtain ⟨od, ho, _⟩ := lookIn_ns hns
      exact ⟨some od, hget, hz.1, by unfold PySem.W.notCls; rw [hv] <;> rfl, by rw [hz.2]; exact ho⟩
  obtain ⟨od, J⟩ := J
  exact PySem.W.kia_one (PySem.W.kitx_exc T.cl T.ga T.gg T.sb T.ha T.hn T.ht T.hm) I.kIn J hk (fun z => nomatch z) fun tk => ⟨.bl b, H, I.kept (t' := tk) fun _ _ z => z, rfl, q⟩
open Classical in
/-- isinstance(e, C), e caught -/
@[simp] noncomputable def eIsX (a : Addr) (cls : Value) (d : Option Addr) (sub : Str → Option Bool) (ea : Ex) (σ : Sg) (S : Sto) : Option (Res SV) := Res.bnd (ea σ S) fun v S1 => match v with
  | .k a2 x c2 d2 => if a2 = a ∧ c2 = cls ∧ d2 = d then (sub x.cls).map fun b => .ok (.d (.bool b)) S1 else none
  | _ => none
open Classical in
/-- e.f, e caught -/
@[simp] noncomputable def eFld (a : Addr) (cls : Value) (d : Option Addr) (f : Str) (ok : Str → Bool) (ea : Ex) (σ : Sg) (S : Sto) : Option (Res SV) := Res.bnd (ea σ S) fun v S1 => match v with
  | .k a2 x c2 d2 => if a2 = a ∧ c2 = cls ∧ d2 = d ∧ ok x.cls = true then match x.fld with
      | some (n, dd) => if n = f then some (.ok (.d dd) S1) else none
      | none => none
    else none
  | _ => none
section
variable {X : Cx} {W : WX} {a : Addr} {oe : Obj} {cls : Value} {d : Option Addr} {pn : List (Addr × Obj)} {e : Expr} {ee : Ex} {y : Str} {c : V} {cv : Value} {sub : Str → Option Bool} {p0 p1 pos : Pos}
theorem de_isX (hz : Zc cls d oe) (hf : ∃ vs, oe.data = .fields vs) (hm : X.mg "isinstance" = none) (he : DE (X.suite a ((a, oe) :: pn)) W e ee) (hc : PE (X.suite a ((a, oe) :: pn)) (.Name y p1) (tC c)) (hcv : ClV c cv)
    (hk : ∀ z u b, PySem.W.nsIn X.K mainGlobals z = some (some u) → sub z = some b → ∃ D, u = .ref D ∧ IsC X.K D ∧ PySem.W.kitOne X.K (.ref D) cv = some b)
    (hg : Gl X "isinstance" := by rfl)
    (h1 : starEach [e, .Name y p1] X.env = (false, eval e X.env) :: starEach [.Name y p1] X.env := by rfl) (h2 : starEach [.Name y p1] X.env = (false, eval (.Name y p1) X.env) :: starEach [] X.env := by rfl)
    (hpl : (backTo pos (starEach [.Name y p1] X.env)).any (·.1) = false := by rfl) : DE (X.suite a ((a, oe) :: pn)) W (.Call (.Name "isinstance" p0) [e, .Name y p1] [] pos) (eIsX a cls d sub ee) :=
  pe_imp (pe_callB (call_isX hz hf) hg hm PyProof.Rows.boot_isinstance (pa_cons he (pa_cons hc pa_nil h2) h1) (he := h1) (hpl := hpl)) fun σV H Q ⟨fo, σ, S, r, hE, hS, hr, hq⟩ => by
    refine TX.first hE hS hr (exc_way hq) fun v S1 vy H1 _ h1 s1 k1 e1 r1 => ?_
    split at h1
    · rename_i a2 x c2 d2 hev
      split at h1
      · rename_i hh
        obtain ⟨rfl, rfl, rfl⟩ := hh
        cases eb : sub x.cls with
        | none => rw [eb] at h1; cases h1
        | some b =>
        rw [eb] at h1
        cases h1
        obtain ⟨rv, rns, rf⟩ := r1
        subst rv
        obtain ⟨D, ec, T, ek⟩ := hk _ _ _ rns eb
        refine ⟨D, c, cv, b, rfl, ec, T, hcv, ek, ?_, hq _ H1 s1 k1 (Is.bl _)⟩
        cases ef : x.fld with
        | none =>
          rw [ef] at rf
          exact .inl rf
        | some q =>
          obtain ⟨n, dd⟩ := q
          rw [ef] at rf
          obtain ⟨da, u, e2, e3, _⟩ := rf
          exact .inr ⟨da, _, e2, e3⟩
      · cases h1
    · cases h1
theorem de_fld {f : Str} {ok : Str → Bool} (hz : Zc cls d oe) (hf : ∃ vs, oe.data = .fields vs) {C : Addr} (hC : ∀ z u, PySem.W.nsIn X.K mainGlobals z = some (some u) → ok z = true → u = .ref C) (T : XfC X.K C) (hno : PySem.W.findIn X.K (.ref C) f = some none) (he : DE (X.suite a ((a, oe) :: pn)) W e ee)
    (hb : attributeBase e f X.env (eval e X.env) = eval e X.env := by rfl) : DE (X.suite a ((a, oe) :: pn)) W (.Attribute e f pos) (eFld a cls d f ok ee) :=
  pe_imp (pe_xf T hno hz hf he hb) fun σV H Q ⟨fo, σ, S, r, hE, hS, hr, hq⟩ => by
    refine TX.first hE hS hr (exc_way hq) fun v S1 vy H1 _ h1 s1 k1 e1 r1 => ?_
    split at h1
    · rename_i a2 x c2 d2 hev
      split at h1
      · rename_i hh
        obtain ⟨rfl, rfl, rfl, hok⟩ := hh
        cases ef : x.fld with
        | none =>
          rw [ef] at h1
          cases h1
        | some q =>
          obtain ⟨n, dd⟩ := q
          rw [ef] at h1
          dsimp only at h1
          split at h1
          · rename_i hn
            subst hn
            cases h1
            obtain ⟨rv, rns, rf⟩ := r1
            rw [ef] at rf
            obtain ⟨da, u, e2, e3, e4, e5⟩ := rf
            exact ⟨rv, hC _ _ rns hok, da, _, u, e2, e3, by simp [List.lookup], hq _ H1 s1 k1 e5⟩
          · cases h1
      · cases h1
    · cases h1
end
end Z
set_option maxRecDepth 100000
set_option maxHeartbeats 2000000
namespace Z
open PySem PySem.Spec PyProof.Rows L2 LamX

/-! ## a lambda without parameters, called where it was handed to -/
section
variable {X : Cx} {pins : List (Addr × Obj)} {σ : L2.St} {H : Hp} {s : Shared}
abbrev lamNm (X : Cx) : Str := X.env.qual ++ "<lambda>"
abbrev lamOb (X : Cx) (params : Arguments) (body : Expr) (scope : Scope) (pm : Value) (c2 : Addr) (ctv : Value) : Obj := PySem.W.kla_obj "<lambda>" (lamNm X) params body scope (cloFrom X.env.cells scope.names []) pm c2 ctv
theorem pe_thunk {CXg : CXT} {Eg : XK} {Ng : List Str} {qg : Str} {sg : Scope} {g f c2 : Addr} {cdg pm ctv : Value} {params : Arguments} {body : Expr} {scope : Scope} {k i : Nat} {nm : Str} {pn : List (Addr × Obj)} {xe : Value → Shared → Prop} {W : WX} {E : XK} {tb : TE} {p1 p2 : Pos}
    (I : Inv X pins σ H s) (L : LamS X.env.scope scope) (hf : s.heap.get? f = some (lamOb X params body scope pm c2 ctv)) (hfn : H f = none) (hfr : f ∉ frs X.stack)
    (hbind : bindArgs (PySem.W.kla_fn "<lambda>" (lamNm X) params body scope (cloFrom X.env.cells scope.names []) pm (.ref c2) ctv) ⟨[], []⟩ = pure [])
    (tk : Takes ((cxOf CXg X.prog X.w X.K X.mg X.base Ng qg sg g cdg X.A X.stack s H Eg).tr pn xe) W) (hW : ∀ cls d τ H2, E cls d H2 → W cls d τ H2) (hr : Room (k + 1) (X.A.deeper (envOfC qg sg s.heap.objs.size g cdg))) (hgd : X.A.guards = some [])
    (hbody : ∀ (A : Around) (outer : List Env) (s : Shared) (H : Hp), Room k (A.deeper (lamEnv X scope s.heap.objs.size f c2)) → A.guards = some [] → PE (lamCx X A outer s H E scope f c2) body tb)
    (hN : Ng[i]? = some nm) (hv : Vis sg nm) (hd : (nm == ("__debug__" : Str)) = false := by decide) (hcd : (nm == ("__classdict__" : Str)) = false := by decide) :
    PE ((cxOf CXg X.prog X.w X.K X.mg X.base Ng qg sg g cdg X.A X.stack s H Eg).tr pn xe) (.Call (.Name nm p1) [] [] p2)
      (fun σZ HZ Q => σZ[i]? = some (some (.ref f)) ∧ HZ c2 = some (CodeO c2 (lamNm X)) ∧ tb σ HZ Q) := by
  refine ⟨fun pinsZ sZ σZ HZ Q IZ ⟨hs, hc, ht⟩ => ?_⟩
  have first := (pe_var (pos := p1) (i := i) hN hv hd hcd).run pinsZ sZ σZ HZ (fun v H1 => v = .ref f ∧ H1 = HZ) IZ ⟨.ref f, hs, rfl, rfl⟩
  refine wpAny_Call_Name_kw (thn first fun u s1 ⟨v, H1, I1, r1, ev, eH⟩ => ?_)
  subst ev eH
  obtain rfl : u = Value.ref f := r1
  have of1 : s1.heap.get? f = some (lamOb X params body scope pm c2 ctv) := I1.base.keep f _ hf hfn hfr (fun z => nomatch (show f ∈ ([] : List Addr) from z))
  refine PySem.W.callWith_F0 ⟨_, _, _, _, of1⟩ ?_
  have un : Un (frs X.stack) [] H H1 s.heap s1.heap := I1.base
  obtain ⟨⟨oc, vs, t, hoc, hdc, hvc⟩, _, _⟩ := I1.hok c2 _ hc
  have hx : Passes (L2.CX X.prog X.w) ((cxOf CXg X.prog X.w X.K X.mg X.base Ng qg sg g cdg X.A X.stack s H Eg).tr pn xe) E := passes_call tk hW
  have inner : codeAny (model X.prog X.w) (X.A.deeper (envOfC qg sg s.heap.objs.size g cdg)) (.call (.ref f) ⟨[], []⟩) (CR (L2.CX X.prog X.w) (envOfC qg sg s.heap.objs.size g cdg :: X.stack) X.prog X.w H1 s1 Q E) s1 := by
    refine PySem.W.kla_callFunE hr.depth of1 rfl L.co L.gen rfl ⟨c2, oc, vs, t, rfl, hoc, hdc, hvc⟩ ?_
    rw [hbind]
    refine wpAny_pure (wpAny_newFunctionEnv (fun y hy => (L.own y hy).2) (fun y hy => absurd hy (by simp)) (fun h1 hns hsb => ⟨I1.nolimit.fresh _ hsb, ?_⟩) L.kind)
    show codeAny _ _ (.expr body (lamEnv X scope s1.heap.objs.size f c2)) _ _
    have kp : ∀ b o, s1.heap.get? b = some o → h1.get? b = some o := fun b o e => hsb.extBut b o (Nat.ne_of_lt (Heap.lt_size e)) (Heap.get?_push_of_some _ e)
    have J := lam_start2 (E := E) (f := f) (c' := c2) (tk := s1.toks + ([] : List (Str × Value)).length) I L I1.env0 hr.hd un hns kp
    refine PySem.W.kla_codeExpr (wpAny_mono ((hbody _ _ s1 H1 (hr.deeper _) hgd).run [] _ _ H1 Q J ht) (fun v s2 ⟨w2, H2, J2, rv, q⟩ => ?_) fun e s2 hq => hq)
    exact ⟨w2, H2, J2.os, J2.bare, J2.base, J2.hok, rv, q⟩
  refine wpAny_call (codeAny_mono inner fun r s2 hq => ?_)
  cases r with
  | error e => exact hx pinsZ σZ H1 s1 e s2 I1 hq
  | ok fl =>
    cases fl with
    | ret u => exact I1.after hq
    | next => exact False.elim hq
    | brk => exact False.elim hq
    | cont => exact False.elim hq
/-- a lambda is made: its code object is new, or found in its maker's table -/
theorem lam_made {fo : Ow} {S : Sto} {i : Nat} {c P : Addr} {params : Arguments} {body : Expr} {scope : Scope} {pos : Pos} {E : Value → Shared → Prop} {Q : Value → Shared → Prop} (I : Inv X pins σ H s) (TB : TabB X.base X.mg c P) (hcode : X.env.code = .ref c)
    (hS : StoR X.K fo S H) (ht : S[i]? = some (.tab (lamNm X) P)) (hdef : defaultsOf params X.env = ([], [])) (hfree : ∀ y ∈ scope.names, y.2 = .free → ∃ c, X.env.cells.lookup y.1 = some c)
    (h : ∀ (f c2 : Addr) (pm ctv : Value) (H1 : Hp) (s1 : Shared), Inv X pins σ H1 s1 → StoR X.K fo S H1 → Kp fo H H1 → s1.heap.get? f = some (lamOb X params body scope pm c2 ctv) → H1 f = none → f ∉ frs X.stack → H1 c2 = some (CodeO c2 (lamNm X)) → fo.nx c2 → Q (.ref f) s1) :
    wpAny (model X.prog X.w) X.A (eval (.Lambda params body scope pos) X.env) Q E s := by
  obtain ⟨p0, ep⟩ := hS.has ht
  obtain ⟨e0, ps, hP, htr, hall⟩ := hS.at_ i _ p0 ht ep
  subst e0
  refine PySem.W.kla_eval hdef ?_
  have bP : s.heap.BuiltinsAt X.mg p0 := TB.bm.keeps I.bk
  have hP2 : s.heap.get? p0 = some { cls := .none, data := .fields ps } := I.hok p0 _ hP
  have nofr : ∀ f, s.heap.objs.size ≤ f → f ∉ frs X.stack := fun f hf z => by
    rcases List.mem_cons.mp (I.stkSub _ z) with e | e
    · have hlt := I.lt
      rw [← e] at hlt
      exact absurd (Nat.lt_of_lt_of_le hlt hf) (Nat.lt_irrefl _)
    · exact I.nofs hf e
  cases hc : codeAmong pos ps.toList with
  | some cv =>
    obtain ⟨c2, e, hco, nc⟩ := hall pos cv hc
    subst e
    refine PySem.W.kla_makeFunctionHit (mg := X.mg) (c := c) (P := p0) (ps := ps) (closure_ok hfree) I.ok.glob (I.mod.glob.keeps I.bk) hcode (TB.code.keeps I.bk) hP2 htr hc bP fun ctv h2 tk hx hsz => ?_
    have J : Inv X pins σ H { s with heap := h2.push (lamOb X params body scope ((X.mg "__name__").getD .none) c2 ctv), toks := tk } := I.kept fun b o e => Heap.get?_push_of_some _ (hx b o e)
    exact h h2.objs.size c2 _ ctv H _ J hS (Kp.refl _ _) (Heap.get?_push_size _ rfl) (I.hok.fresh hsz) (nofr _ hsz) hco nc
  | none =>
    refine PySem.W.kla_makeFunction (mg := X.mg) (c := c) (P := p0) (ps := ps) (closure_ok hfree) I.ok.glob (I.mod.glob.keeps I.bk) hcode (TB.code.keeps I.bk) hP2 htr hc TB.gP bP fun c2 ctv h2 tk hx hge hlt hrec htb => ?_
    obtain ⟨c3, oc, vs, t, e2, hoc, hd, hv⟩ := hrec
    cases e2
    have hsz : s.heap.objs.size ≤ h2.objs.size := Nat.le_trans hge (Nat.le_of_lt hlt)
    have nC : H c2 = none := I.hok.fresh hge
    have nPc : p0 ≠ c2 := ne_of_none hP nC
    have J := inv_table (q := lamNm X) (t' := tk) (more := #[rawInt pos.line, rawInt pos.col, .ref c2]) (h' := h2.push (lamOb X params body scope ((X.mg "__name__").getD .none) c2 ctv)) I hP
      (fun b o hb e => Heap.get?_push_of_some _ (hx b o hb e)) (Heap.get?_push_of_some _ htb) hge ⟨oc, vs, t, Heap.get?_push_of_some _ hoc, hd, hv⟩
    have es : upd (upd H p0 (.tbl (ps ++ #[rawInt pos.line, rawInt pos.col, .ref c2]))) c2 (CodeO c2 (lamNm X)) = upd (upd H c2 (CodeO c2 (lamNm X))) p0 (.tbl (ps ++ #[rawInt pos.line, rawInt pos.col, .ref c2])) := funext fun b => by
      by_cases h1 : b = c2
      · rw [h1, upd_same, upd_ne (Ne.symm nPc), upd_same]
      · rw [upd_ne h1]
        by_cases h3 : b = p0
        · rw [h3, upd_same, upd_same]
        · rw [upd_ne h3, upd_ne h3, upd_ne h1]
    rw [es] at J
    have S1 : StoR X.K fo S (upd H c2 (CodeO c2 (lamNm X))) := hS.laid nC
    have nc2 : fo.nx c2 := hS.free nC
    have eL : (ps ++ #[rawInt pos.line, rawInt pos.col, .ref c2]).toList = ps.toList ++ [rawInt pos.line, rawInt pos.col, .ref c2] := by simp
    have S2 : StoR X.K fo (S.set i (.tab (lamNm X) p0)) (upd (upd H c2 (CodeO c2 (lamNm X))) p0 (.tbl (ps ++ #[rawInt pos.line, rawInt pos.col, .ref c2]))) := S1.put ep ⟨rfl, _, upd_same, by rw [eL]; exact PySem.TriplesOk_snoc _ _ _ _ htr, fun p2 cv hcv => by
      rw [eL] at hcv
      rcases among_app _ htr hcv with z | z
      · obtain ⟨c4, e1, e3, e4⟩ := hall p2 cv z
        exact ⟨c4, e1, by rw [upd_ne (fun z => by rw [z, hP] at e3; exact codeO_ne ps (Option.some.inj e3).symm), upd_ne (ne_of_none e3 nC)]; exact e3, e4⟩
      · exact ⟨c2, z, by rw [upd_ne (Ne.symm nPc), upd_same], nc2⟩⟩
    have eS : S.set i (.tab (lamNm X) p0) = S := by
      apply List.ext_getElem?
      intro j
      by_cases hj : i = j
      · subst hj
        rw [List.getElem?_set_self (List.getElem?_eq_some_iff.mp ht).1, ht]
      · rw [List.getElem?_set_ne hj]
    rw [eS] at S2
    refine h h2.objs.size c2 _ ctv _ _ J S2 ((Kp.new nC).trans (Kp.put ep)) (Heap.get?_push_size _ rfl) ?_ (nofr _ hsz) (by rw [upd_ne (Ne.symm nPc), upd_same]) nc2
    have n1 : h2.objs.size ≠ c2 := Nat.ne_of_gt hlt
    have n2 : h2.objs.size ≠ p0 := Nat.ne_of_gt (Nat.lt_of_lt_of_le (Heap.lt_size hP2) hsz)
    rw [upd_ne n2, upd_ne n1]
    exact I.hok.fresh hsz
end
end Z
set_option maxRecDepth 100000
set_option maxHeartbeats 2000000
namespace Z
open PySem PySem.Spec PyProof.Rows L2 LamX

/-! ## a def that is handed a lambda without parameters -/
abbrev WE (E : XK) : WX := fun cls d _ H => E cls d H
/-- the meaning of a lambda that yields data -/
def thOf (m : Sto → Option (Res SV)) : Th := fun S => match m S with
  | some (.ok (.d d) S1) => some (.ok d S1)
  | some (.exc x S1) => some (.exc x S1)
  | _ => none
theorem ThR.of {X : Cx} {f : Ow} {H : Hp} {σV : L2.St} {σ : Sg} {ee : Ex} (hE : EnvR X.K f H σV σ) : ThR X.K f H (fun E H2 Q => TX X (WE E) ee σV H2 Q) (thOf (ee σ)) := fun f2 H2 S2 r E Q kq g p hS he hr => by
  unfold thOf at he
  split at he
  · rename_i d S1 e
    cases he
    exact ⟨f2, σ, S2, _, hE.keep kq g p, hS, e, hr⟩
  · rename_i x S1 e
    cases he
    exact ⟨f2, σ, S2, _, hE.keep kq g p, hS, e, hr⟩
  · cases he
abbrev hCx (P : Program) (w : World) (K : PySem.W.Frag) (mg : Str → Option Value) (base : Heap) (Ng : List Str) (x : Str) (sg : Scope) (g : Addr) (cdv : Value) (A : Around) (stack : List Env) (s : Shared) (H : Hp) : Cx := cxOf C8.CX0 P w K mg base Ng x sg g cdv A stack s H C8.E0
/-- x(lambda: ..) does what gth says of the lambda's meaning -/
structure FnH (P : Program) (w : World) (K : PySem.W.Frag) (mg : Str → Option Value) (base : Heap) (k : Nat) (x : Str) (gth : Th → Sto → Option FR) where
  g : Addr
  pg : Arguments
  bg : List Stmt
  sg : Scope
  dV : Value
  kV : Value
  doc : Value
  pm : Value
  an : Option Addr
  cdv : Value
  ct : Value
  oc : Value
  od : Option Addr
  osl : Array (Option Value)
  Ng : List Str
  a : Str
  mgx : mg x = some (.ref g)
  kp : PySem.W.keepIn K (.ref g) = true
  lk : K.lookup g = some ⟨oc, od, .func (PySem.W.fnOf x x pg bg sg dV kV doc pm an cdv ct), osl⟩
  cd : PySem.W.codeIn K cdv x = true
  hb : Binds K (PySem.W.fnOf x x pg bg sg dV kV doc pm an cdv ct) [a] []
  sc : FnScope Ng [a] sg
  h0 : Ng[0]? = some a
  hv : Vis sg a
  d1 : (a == ("__debug__" : Str)) = false
  d2 : (a == ("__classdict__" : Str)) = false
  run : ∀ (A : Around) (stack : List Env) (f c2 : Addr) (q : Str) (s : Shared) (H : Hp) (Q : VK) (tl : XK → Hp → VK → Prop) (fo : Ow) (S : Sto) (th : Th) (r : FR), Room k (A.deeper (envOfC x sg s.heap.objs.size g cdv)) → A.guards = some [] →
    (∀ (W : WX) (pn : List (Addr × Obj)) (xe : Value → Shared → Prop) (E : XK) (p1 p2 : Pos), Takes ((hCx P w K mg base Ng x sg g cdv A stack s H).tr pn xe) W → (∀ cls d τ H2, E cls d H2 → W cls d τ H2) →
      PE ((hCx P w K mg base Ng x sg g cdv A stack s H).tr pn xe) (.Call (.Name a p1) [] [] p2) (fun σZ HZ Q => σZ[0]? = some (some (.ref f)) ∧ HZ c2 = some (CodeO c2 q) ∧ tl E HZ Q)) →
    H c2 = some (CodeO c2 q) → fo.nx c2 → StoR K fo S H → ThR K fo H tl th → gth th S = some r →
    (match r with
      | .ok v S2 => ∀ u H2, StoR K fo S2 H2 → Kp fo H H2 → SvR K fo H2 u v → Q u H2
      | _ => False) →
    ∃ t, PSs (hCx P w K mg base Ng x sg g cdv A stack s H).nox bg t ∧ t { nx := fun _ H2 => Q .non H2, rt := Q } (L2.start Ng [.ref f]) H
open Classical in
@[simp] noncomputable def eHand (i : Nat) (q : Str) (P : Addr) (gth : Th → Sto → Option FR) (ee : Ex) (σ : Sg) (S : Sto) : Option (Res SV) := match S[i]? with
  | some (.tab q2 P2) => if q2 = q ∧ P2 = P then match gth (thOf (ee σ)) S with
      | some (.ok v S2) => some (.ok v S2)
      | _ => none
    else none
  | _ => none
theorem de_handed {X : Cx} {W : WX} {k i : Nat} {c P : Addr} {x : Str} {gth : Th → Sto → Option FR} {params : Arguments} {body : Expr} {scope : Scope} {ee : Ex} {p lpos pos : Pos} (G : Gd X W (k + 2)) (F : FnH X.prog X.w X.K X.mg X.base (k + 1) x gth) (TB : TabB X.base X.mg c P) (hcode : X.env.code = .ref c)
    (L : LamS X.env.scope scope) (hdef : defaultsOf params X.env = ([], [])) (hbind : ∀ (q : Str) (cl : List (Str × Addr)) (pm cv ctv : Value), bindArgs (PySem.W.kla_fn "<lambda>" q params body scope cl pm cv ctv) ⟨[], []⟩ = pure [])
    (hbody : ∀ (A : Around) (outer : List Env) (s : Shared) (H : Hp) (E : XK) (f c2 : Addr), Room k (A.deeper (lamEnv X scope s.heap.objs.size f c2)) → A.guards = some [] → DE (lamCx X A outer s H E scope f c2) (WE E) body ee)
    (hg : Gl X x := by rfl) (hdb : (x == ("__debug__" : Str)) = false := by decide) : DE X W (.Call (.Name x p) [.Lambda params body scope lpos] [] pos) (eHand i (lamNm X) P gth ee) := by
  refine ⟨fun pins s σV H Q I ⟨fo, σ, S, r, hE, hS, hr, hq⟩ => ?_⟩
  unfold eHand at hr
  split at hr
  case h_2 => cases hr
  rename_i q2 P2 ht
  split at hr
  case isFalse => cases hr
  rename_i hh
  obtain ⟨rfl, rfl⟩ := hh
  refine wpAny_Call_Name_kw (ld_glob I hg F.mgx ?_ hdb)
  refine PySem.W.callWith_K (h₀ := X.base) I.ok.mod.kin F.kp ?_ (by rfl) (by rfl)
  show wpAny _ _ (spliced ((false, eval (.Lambda params body scope lpos) X.env) :: backTo pos (starEach [] X.env))) _ _ s
  refine Calls.spliced_cons (lam_made I TB hcode hS ht hdef (L.has I.ok) fun f c2 pm2 ctv H1 s1 I1 S1 k1 hf hfn hfr hco nc => ?_)
  refine Calls.spliced_nil ⟨I1.kIn, ?_⟩
  have rc : codeAny (model X.prog X.w) X.A (.call (.ref F.g) ⟨[.ref f], []⟩) (CR C8.CX0 X.stack X.prog X.w H1 s1 Q C8.E0) s1 := by
    refine run_ofS (N := F.Ng) (ps := [F.a]) (us := [.ref f]) (vs := [.ref f]) F.lk F.cd F.sc G.hr I1.env0 (F.hb s1 [.ref f] I1.kIn rfl) (.cons rfl .nil) rfl fun hr2 => ?_
    cases eg : gth (thOf (ee σ)) S with
    | none => rw [eg] at hr; cases hr
    | some fr =>
    rw [eg] at hr
    cases fr with
    | nw o S2 => cases hr
    | exc y S2 => cases hr
    | ok v S2 =>
    cases hr
    obtain ⟨t2, h1, h2⟩ := F.run X.A X.stack f c2 (lamNm X) s1 H1 Q (fun E H2 Q2 => TX X (WE E) ee σV H2 Q2) fo S (thOf (ee σ)) (.ok v S2) hr2 G.gd
      (fun W2 pn xe E p1 p2 tk hW => pe_thunk (i := 0) I1 L hf hfn hfr (hbind _ _ _ _ _) tk hW hr2 G.gd (fun A outer s H hr3 hgd => hbody A outer s H E f c2 hr3 hgd) F.h0 F.hv F.d1 F.d2) hco nc S1 (ThR.of (hE.kp k1)) eg
      (fun u H2 s2 k2 r2 => hq u H2 s2 (k1.trans k2) r2)
    exact ⟨t2, h1.nox, h2⟩
  refine wpAny_call (codeAny_mono rc fun r s2 hq => ?_)
  cases r with
  | error e => exact (show False from hq).elim
  | ok fl =>
    cases fl with
    | ret u => exact I1.after hq
    | next => exact False.elim hq
    | brk => exact False.elim hq
    | cont => exact False.elim hq
open Classical in
/-- the thunk in slot i is called -/
@[simp] noncomputable def sTh (p c : Addr) (q : Str) (tl : XK → Hp → VK → Prop) (i : Nat) (σ : Sg) (S : Sto) : Option Flow := match σ[i]? with
  | some (some (.t p2 c2 q2 tl2 th)) => if p2 = p ∧ c2 = c ∧ q2 = q ∧ tl2 = tl then match th S with
      | some (.ok _ S1) => some (.nx σ S1)
      | some (.exc x S1) => some (.exc x S1)
      | none => none
    else none
  | _ => none
open Classical in
@[simp] noncomputable def sThR (p c : Addr) (q : Str) (tl : XK → Hp → VK → Prop) (i : Nat) (σ : Sg) (S : Sto) : Option Flow := match σ[i]? with
  | some (some (.t p2 c2 q2 tl2 th)) => if p2 = p ∧ c2 = c ∧ q2 = q ∧ tl2 = tl then match th S with
      | some (.ok d S1) => some (.rt (.d d) S1)
      | some (.exc x S1) => some (.exc x S1)
      | none => none
    else none
  | _ => none
/-- x() in a context around whose statements it may be tried -/
abbrev Act (Y : Cx) (a : Str) (p c : Addr) (q : Str) (tl : XK → Hp → VK → Prop) : Prop := ∀ (W : WX) (pn : List (Addr × Obj)) (xe : Value → Shared → Prop) (E : XK) (p1 p2 : Pos), Takes (Y.tr pn xe) W → (∀ cls d τ H2, E cls d H2 → W cls d τ H2) →
  PE (Y.tr pn xe) (.Call (.Name a p1) [] [] p2) (fun σZ HZ Q => σZ[0]? = some (some (.ref p)) ∧ HZ c = some (CodeO c q) ∧ tl E HZ Q)
section
variable {Y : Cx} {a : Str} {p c : Addr} {q : Str} {tl : XK → Hp → VK → Prop} {W : WX} {pn : List (Addr × Obj)} {xe : Value → Shared → Prop} {p1 p2 p3 : Pos}
theorem ds_thunk (act : Act Y a p c q tl) (tk : Takes (Y.tr pn xe) W) (hs : swapsWith (.Call (.Name a p1) [] [] p2) none p3.line (Y.tr pn xe).env = pure false := by rfl) : DS (Y.tr pn xe) W (.Expr (.Call (.Name a p1) [] [] p2) p3) (sTh p c q tl 0) :=
  ps_imp (ps_expr (act W pn xe (fun cls d H => ∀ τ, W cls d τ H) p1 p2 tk (fun cls d τ H h => h τ)) hs) fun D σV H ⟨fo, σ, S, r, hE, hS, hr, hf⟩ => by
    unfold sTh at hr
    split at hr
    case h_2 => cases hr
    rename_i p4 c4 q4 tl4 th e0
    split at hr
    case isFalse => cases hr
    rename_i hh
    obtain ⟨rfl, rfl, rfl, rfl⟩ := hh
    obtain ⟨v, ev, rv, rc, nc, rt⟩ := hE.get 0 _ e0
    subst rv
    refine ⟨ev, rc, ?_⟩
    cases et : th S with
    | none => rw [et] at hr; cases hr
    | some r0 =>
    rw [et] at hr
    refine rt fo H S r0 _ _ (Kq.refl _ _) (Gr.refl _ _) (Pf.refl _) hS et ?_
    cases r0 with
    | ok d S1 =>
      cases hr
      exact fun u H3 s3 k3 r3 => ReS.now (hf.kp s3 k3) s3 (hE.kp k3)
    | exc x S1 =>
      cases hr
      exact fun cls d H3 s3 k3 r3 τ => XS.of (σV := τ) hf cls d H3 s3 k3 r3
theorem ds_thunkR (act : Act Y a p c q tl) (tk : Takes (Y.tr pn xe) W) : DS (Y.tr pn xe) W (.Return (some (.Call (.Name a p1) [] [] p2)) p3) (sThR p c q tl 0) :=
  ps_imp (ps_ret (act W pn xe (fun cls d H => ∀ τ, W cls d τ H) p1 p2 tk (fun cls d τ H h => h τ))) fun D σV H ⟨fo, σ, S, r, hE, hS, hr, hf⟩ => by
    unfold sThR at hr
    split at hr
    case h_2 => cases hr
    rename_i p4 c4 q4 tl4 th e0
    split at hr
    case isFalse => cases hr
    rename_i hh
    obtain ⟨rfl, rfl, rfl, rfl⟩ := hh
    obtain ⟨v, ev, rv, rc, nc, rt⟩ := hE.get 0 _ e0
    subst rv
    refine ⟨ev, rc, ?_⟩
    cases et : th S with
    | none => rw [et] at hr; cases hr
    | some r0 =>
    rw [et] at hr
    refine rt fo H S r0 _ _ (Kq.refl _ _) (Gr.refl _ _) (Pf.refl _) hS et ?_
    cases r0 with
    | ok d S1 =>
      cases hr
      exact fun u H3 s3 k3 r3 => hf [] u H3 (fun _ z => nomatch z) (by rw [Ow.add_nil]; exact s3) k3 (by rw [Ow.add_nil]; exact r3)
    | exc x S1 =>
      cases hr
      exact fun cls d H3 s3 k3 r3 τ => XS.of (σV := τ) hf cls d H3 s3 k3 r3
end
end Z
set_option maxRecDepth 100000
set_option maxHeartbeats 2000000
namespace Z
open PySem PySem.Spec PyProof.Rows L2 LamX

/-! ## the meaning of a def that is handed a lambda -/
abbrev MTh := Addr → Addr → Str → (XK → Hp → VK → Prop) → Sm
open Classical in
noncomputable def runT (n : Nat) (mm : MTh) (th : Th) (S : Sto) : Option FR :=
  if h : ∃ r, ∀ p c q tl, fnRun n (mm p c q tl) [.t p c q tl th] S = some r then some h.choose else none
theorem runT_eq {n : Nat} {mm : MTh} {th : Th} {S : Sto} {r : FR} (h : ∀ p c q tl, fnRun n (mm p c q tl) [.t p c q tl th] S = some r) : runT n mm th S = some r := by
  have e : ∃ r, ∀ p c q tl, fnRun n (mm p c q tl) [.t p c q tl th] S = some r := ⟨r, h⟩
  unfold runT
  rw [dif_pos e]
  have h2 := e.choose_spec (0 : Nat) (0 : Nat) Str.empty (fun _ _ _ => True)
  rw [h] at h2
  exact h2.symm
theorem runT_at {n : Nat} {mm : MTh} {th : Th} {S : Sto} {r : FR} (h : runT n mm th S = some r) (p c : Addr) (q : Str) (tl : XK → Hp → VK → Prop) : fnRun n (mm p c q tl) [.t p c q tl th] S = some r := by
  unfold runT at h
  split at h
  · rename_i e
    cases h
    exact e.choose_spec p c q tl
  · cases h
section
variable {P : Program} {w : World} {K : PySem.W.Frag} {mg : Str → Option Value} {base : Heap} {k n : Nat} {x a : Str} {st : Stmt} {g : Addr} {fd : FuncData} {Ng : List Str} {mm : MTh}
theorem fnH_def (F : Fun K x x st g fd) (hm : mg x = some (.ref g)) (sc : FnScope Ng [a] (defScope st)) (h0 : Ng[0]? = some a) (hn : Ng.length - 1 = n) (hv : Vis (defScope st) a)
    (bd : ∀ (kV doc pm : Value) (an : Option Addr) (cdv ct : Value), L2.Binds K (PySem.W.fnOf x x (defArgs st) (defBody st) (defScope st) .none kV doc pm an cdv ct) [a] [])
    (hb : ∀ (cdv : Value) (A : Around) (stack : List Env) (s : Shared) (H : Hp) (p c : Addr) (q : Str) (tl : XK → Hp → VK → Prop), Gd (hCx P w K mg base Ng x (defScope st) g cdv A stack s H).nox W0 k →
      Act (hCx P w K mg base Ng x (defScope st) g cdv A stack s H) a p c q tl → DB (hCx P w K mg base Ng x (defScope st) g cdv A stack s H).nox W0 (defBody st) (mm p c q tl))
    (d1 : (a == ("__debug__" : Str)) = false := by decide) (d2 : (a == ("__classdict__" : Str)) = false := by decide) : Nonempty (FnH P w K mg base k x (runT n mm)) := by
  obtain ⟨oc, od, kV, doc, pm, an, cdv, ct, osl, rfl, lk, hcd⟩ := F.ex
  refine ⟨{ g := g, pg := defArgs st, bg := defBody st, sg := defScope st, dV := .none, kV := kV, doc := doc, pm := pm, an := an, cdv := cdv, ct := ct, oc := oc, od := od, osl := osl, Ng := Ng, a := a, mgx := hm, kp := F.kp, lk := lk, cd := hcd, hb := bd _ _ _ _ _ _, sc := sc, h0 := h0, hv := hv, d1 := d1, d2 := d2, run := ?_ }⟩
  intro A stack p c q s H Q tl fo S th r hr hgd act hco nc hS hth hg hq
  have G : Gd (hCx P w K mg base Ng x (defScope st) g cdv A stack s H).nox W0 k := ⟨hr, hgd, rfl, sc.nd, L2.takes0, PassesOwn.never⟩
  refine ⟨_, hb cdv A stack s H p c q tl G act, ?_⟩
  have e := runT_at hg p c q tl
  unfold fnRun at e
  cases hmm : mm p c q tl ([SV.t p c q tl th].map some ++ List.replicate n none) S with
  | none => rw [hmm] at e; cases e
  | some fl =>
    rw [hmm] at e
    have hp : Paired (SvR K fo H) [V.ref p] [SV.t p c q tl th] := .cons ⟨rfl, hco, nc, hth⟩ .nil
    refine ⟨fo, _, S, fl, start_env hp hn, hS, hmm, body_end (X := (hCx P w K mg base Ng x (defScope st) g cdv A stack s H).nox) (E := C8.E0) (svs := [SV.t p c q tl th]) (fun _ _ _ _ z => z) hS e ?_⟩
    cases r with
    | ok v S2 => exact hq
    | nw o S2 => exact hq.elim
    | exc y S2 => exact hq.elim
end
end Z
set_option maxRecDepth 100000
set_option maxHeartbeats 1000000
namespace Z
open PySem PySem.Spec PyProof.Rows L2

/-! ## slices -/
abbrev Po := Sg → Sto → Option (Res (Option Int))
@[simp] def poN (_ : Sg) (S : Sto) : Option (Res (Option Int)) := some (.ok none S)
@[simp] def poS (e : Ex) (σ : Sg) (S : Sto) : Option (Res (Option Int)) := Res.bnd (e σ S) fun x S1 => match x with
  | .d (.int i) => some (.ok (some i) S1)
  | _ => none
def TO_ (X : Cx) (W : WX) (p : Po) : TO := fun σV H Q => ∃ (f : Ow) (σ : Sg) (S : Sto) (r : Res (Option Int)), EnvR X.K f H σV σ ∧ StoR X.K f S H ∧ p σ S = some r ∧
  match r with
  | .ok o S' => ∀ (H' : Hp), StoR X.K f S' H' → Kp f H H' → Q o H'
  | .exc x S' => XS X W f σV H x S'
def DO (X : Cx) (W : WX) (e : Option Expr) (p : Po) : Prop := PO X e (TO_ X W p)
@[simp] def pSl (x : SV) (lo hi : Option Int) (S : Sto) : Option SV := match x with
  | .d (.list ds) => some (.d (.list (cutD ds lo hi)))
  | .d (.tuple ds) => some (.d (.tuple (cutD ds lo hi)))
  | .d (.str z) => if z.length ≤ sizeLine then some (.d (.str (cutS z lo hi))) else none
  | .r j => match S[j]? with
    | some (.lst ds) => some (.d (.list (cutD ds lo hi)))
    | _ => none
  | _ => none
@[simp] def eSl (e : Ex) (l h : Po) (σ : Sg) (S : Sto) : Option (Res SV) := Res.bnd (e σ S) fun x S1 => Res.bnd (l σ S1) fun lo S2 => Res.bnd (h σ S2) fun hi S3 => (pSl x lo hi S3).map fun z => .ok z S3
section
variable {X : Cx} {W : WX} {e : Expr} {ee : Ex} {lo hi : Option Expr} {ml mh : Po} {pos p2 : Pos}
theorem po_imp {t t' : TO} (h : PO X lo t) (i : ∀ σ H Q, t' σ H Q → t σ H Q) : PO X lo t' := ⟨fun pins s σ H Q I q => h.run pins s σ H Q I (i σ H Q q)⟩
theorem do_none : DO X W none poN := po_imp po_none fun σV H Q ⟨f, σ, S, r, hE, hS, he, hq⟩ => by
  cases he
  exact hq H hS (Kp.refl _ _)
theorem do_some (h : DE X W e ee) : DO X W (some e) (poS ee) := po_imp (po_some h) fun σV H Q ⟨f, σ, S, r, hE, hS, he, hq⟩ => by
  refine TX.first hE hS he (fun x S' e => by subst e; exact hq) fun x S1 vx H1 _ h1 s1 k1 e1 r1 => ?_
  split at h1
  · cases h1
    cases r1
    exact ⟨_, rfl, hq H1 s1 k1⟩
  · cases h1
theorem TO_.first {β : Type} {e : Po} {g : Option Int → Sto → Option (Res β)} {f : Ow} {σ : Sg} {S : Sto} {σV : L2.St} {H : Hp} {r : Res β} {Q : Option Int → Hp → Prop} (hE : EnvR X.K f H σV σ) (hS : StoR X.K f S H) (h : Res.bnd (e σ S) g = some r)
    (hx : ∀ x S', r = .exc x S' → XS X W f σV H x S')
    (hk : ∀ (b : Option Int) (S1 : Sto) (H1 : Hp), e σ S = some (.ok b S1) → g b S1 = some r → StoR X.K f S1 H1 → Kp f H H1 → EnvR X.K f H1 σV σ → Q b H1) : TO_ X W e σV H Q := by
  cases e1 : e σ S with
  | none => rw [e1] at h; cases h
  | some q =>
    rw [e1] at h
    refine ⟨f, σ, S, q, hE, hS, e1, ?_⟩
    cases q with
    | ok sv S1 => exact fun H1 s1 k1 => hk sv S1 H1 e1 h s1 k1 (hE.kp k1)
    | exc x S1 => exact hx x S1 (Option.some.inj h).symm
theorem slk {f : Ow} {S : Sto} {H : Hp} {vx : V} {x z : SV} {lo hi : Option Int} {Q : VK} (hS : StoR X.K f S H) (rx : SvR X.K f H vx x) (hp : pSl x lo hi S = some z) (hq : ∀ (v : V) (H' : Hp), StoR X.K f S H' → Kp f H H' → SvR X.K f H' v z → Q v H') :
    (rSlL X.K vx lo hi H Q ∨ rSlA X.K vx lo hi H Q) ∨ rSlS vx lo hi H Q := by
  unfold pSl at hp
  split at hp
  · cases hp
    cases rx with
    | @lst a xs _ h1 h2 =>
    exact .inl (.inl ⟨a, xs, rfl, h1.sq, fun p np => hq _ _ (hS.laid np) (Kp.new np) (Is.lst ⟨upd_same, hS.free np⟩ (cut_is (h2.keep (Kp.new np).q (Gr.refl _ _)) lo hi))⟩)
  · rename_i ds
    cases hp
    cases rx with
    | @tup a xs _ h1 h2 =>
    refine .inl (.inr ⟨a, xs, rfl, h1.sq, fun hw => ?_, fun _ p np => hq _ _ (hS.laid np) (Kp.new np) (Is.tup (.inl ⟨.inl upd_same, hS.free np⟩) (cut_is (h2.keep (Kp.new np).q (Gr.refl _ _)) lo hi))⟩)
    refine hq _ H hS (Kp.refl _ _) ?_
    have ed : cutD ds lo hi = ds := by
      unfold cutD
      rw [h2.len] at hw
      rw [hw.1, hw.2]
      simp
    rw [ed]
    exact Is.tup h1 h2
  · split at hp
    · rename_i hz
      cases hp
      cases rx
      exact .inr ⟨_, rfl, hz, hq _ H hS (Kp.refl _ _) (Is.str _)⟩
    · cases hp
  · split at hp
    · rename_i ds e1
      cases hp
      obtain ⟨a, ea, rfl⟩ := rx
      obtain ⟨xs, h1, h2⟩ := hS.at_ _ _ a e1 ea
      exact .inl (.inl ⟨a, xs, rfl, .inl (.inl h1), fun p np => hq _ _ (hS.laid np) (Kp.new np) (Is.lst ⟨upd_same, hS.free np⟩ (cut_is (h2.keep (Kp.new np).q (Gr.refl _ _)) lo hi))⟩)
    · cases hp
  · cases hp
theorem de_slice (he : DE X W e ee) (hl : DO X W lo ml) (hh : DO X W hi mh) : DE X W (.Subscript e (.Slice lo hi none p2) pos) (eSl ee ml mh) :=
  pe_imp (pe_slice (SlR.or (SlR.or sl_list sl_tupA) sl_str) he hl hh) fun σV H Q ⟨f, σ, S, r, hE, hS, hr, hq⟩ => by
    have hx := exc_way hq
    refine TX.first hE hS hr hx fun x S1 vx H1 _ h1 s1 k1 e1 r1 => ?_
    refine TO_.first e1 s1 h1 (fun y S' e => (hx y S' e).kp k1) fun lo S2 H2 _ h2 s2 k2 e2 => ?_
    have k12 := k1.trans k2
    refine TO_.first e2 s2 h2 (fun y S' e => (hx y S' e).kp k12) fun hi S3 H3 _ h3 s3 k3 e3 => ?_
    cases hp : pSl x lo hi S3 with
    | none => rw [hp] at h3; cases h3
    | some z =>
      rw [hp] at h3
      cases h3
      exact slk s3 ((r1.kp k2).kp k3) hp fun v H' s' k' r' => hq v H' s' ((k12.trans k3).trans k') r'

/-! ### [::-1] -/
theorem getItem_tuple_rev {prog : Program} {w : World} {A : Around} {E : Value → Shared → Prop} {s : Shared} {t sl : Addr} {items : Array Value} {vs : Value} {Q : Value → Shared → Prop} (ht : IsTup s.heap t items) (hs : s.heap.IsSliceOf sl .none .none vs) (ps : IsPart vs (some (-1)))
    (h : Q (.ref s.heap.objs.size) { s with heap := s.heap.push { cls := .type "tuple", data := .seq items.toList.reverse.toArray } }) (hsz : items.size ≤ sizeLine) : wpAny (model prog w) A (getItem (.ref t) (.ref sl)) Q E s := by
  have htake : sizeOk (.seq items.toList.reverse.toArray) := by
    show items.toList.reverse.toArray.size ≤ sizeLine
    simpa using hsz
  obtain ⟨os, hos, hcs, hds⟩ := id hs
  have hTs : s.TypeIs (.ref sl) "slice" := ⟨os, hos, hcs⟩
  unfold getItem
  try with_reducible refine wpAny_holding ?_
  first | refine wpAny_bind (wpAny_pure ?_) | skip
  refine wpAny_bind (wpAny_sequenceKey ht.typeIs (by decide) ?_)
  refine wpAny_bind (wpAny_callSpecial?_slot (name := Str.ofString "__getitem__") ht.typeIs PyProof.Rows.slot_tuple_getitem
    (wpAny_call_entry PyProof.Rows.slot_tuple_getitem ht.typeIs PyProof.Rows.entry_tuple_getitem ?_ (PyProof.Rows.args_tuple_getitem _ _)))
  show wpAny _ _ (Builtin.Tuple.tupleItemsOf (.ref t) >>= _) _ _ s
  refine wpAny_bind (PyProof.Rows.tupleItemsOf_ ht ?_)
  refine wpAny_bind (wpAny_typeOf hTs ?_)
  rw [if_pos (by decide)]
  have places : Builtin.Slice.slicePlaces ((items.size : Int) - 1) (-1) (-1) = items.size := by
    unfold Builtin.Slice.slicePlaces
    have h1 : ¬ ((-1 : Int) > 0) := by omega
    have e1 : (-(-1 : Int)) = 1 := rfl
    simp only [h1, if_false, e1, Int.ediv_one]
    split <;> omega
  have appl : ∀ {Q : Int × Int × Nat → Shared → Prop}, Q ((items.size : Int) - 1, -1, items.size) s → wpAny (model prog w) A.in1 (Builtin.Slice.sliceApplied (.ref sl) (pure (items.size : Int))) Q E s := by
    intro Q h
    unfold Builtin.Slice.sliceApplied Builtin.Slice.sliceFields
    refine wpAny_bind (wpAny_bind (wpAny_field hos hds (x := .none) rfl (wpAny_bind (wpAny_field hos hds (x := .none) rfl (wpAny_bind (wpAny_field hos hds (x := vs) rfl (wpAny_pure ?_)))))))
    refine wpAny_bind (HT.slicePart_ ps ?_)
    show wpAny _ _ (if ((-1 : Int) == 0) = true then _ else _) _ _ s
    rw [if_neg (by decide)]
    refine wpAny_bind (HT.slicePart_ .none (wpAny_bind (HT.slicePart_ .none (wpAny_bind (wpAny_pure ?_)))))
    have adj : Builtin.Slice.sliceAdjust none none (-1) (items.size : Int) = ((items.size : Int) - 1, -1) := by
      unfold Builtin.Slice.sliceAdjust
      have h1 : (-1 : Int) < 0 := by omega
      simp only [h1, if_true]
    show wpAny _ _ (match Builtin.Slice.sliceAdjust none none (-1) (items.size : Int) with | (lo, hi) => pure (lo, (-1 : Int), Builtin.Slice.slicePlaces lo hi (-1))) _ _ s
    rw [adj]
    show wpAny _ _ (pure ((items.size : Int) - 1, (-1 : Int), Builtin.Slice.slicePlaces ((items.size : Int) - 1) (-1) (-1))) _ _ s
    rw [places]
    exact wpAny_pure h
  refine wpAny_bind (appl ?_)
  have hno : ¬ ((((items.size : Int) - 1) == 0 && (-1 : Int) == 1 && items.size == items.size) = true) := by
    simp
  show wpAny _ _ (if (((items.size : Int) - 1) == 0 && (-1 : Int) == 1 && items.size == items.size) = true then _ else _) _ _ s
  have pick : ((List.range items.size).filterMap fun (m : Nat) => items[(((items.size : Int) - 1) + (m : Int) * (-1)).toNat]?).toArray = items.toList.reverse.toArray := by
    congr 1
    apply List.ext_getElem?
    intro i
    have key : ∀ n : Nat, n ≤ items.size → (List.range n).filterMap (fun (m : Nat) => items[(((items.size : Int) - 1) + (m : Int) * (-1)).toNat]?) = (items.toList.reverse).take n := by
      intro n
      induction n with
      | zero => intro _; simp
      | succ n ih =>
        intro hn
        rw [List.range_succ, List.filterMap_append, ih (by omega)]
        have e1 : (((items.size : Int) - 1) + (n : Int) * (-1)).toNat = items.size - 1 - n := by omega
        have e2 : items.size - 1 - n < items.size := by omega
        simp only [List.filterMap_cons, List.filterMap_nil, e1, Array.getElem?_eq_getElem e2]
        rw [List.take_succ]
        congr 1
        rw [List.getElem?_reverse (by rw [Array.length_toList]; omega)]
        simp [e2]
    have k := key items.size (Nat.le_refl _)
    rw [k, List.take_of_length_le (by simp)]
  rw [if_neg hno, pick]
  first
    | exact wpAny_bind (m := Builtin.Tuple.tupleExact _) (wpAny_newObj_type (wpAny_pure ⟨_, rfl, wpAny_pure h⟩) htake)
    | exact wpAny_bind (m := Builtin.Tuple.tupleExact _) (wpAny_newObj_type (wpAny_bind (wpAny_pure (wpAny_pure ⟨_, rfl, wpAny_pure h⟩))) htake)
    | exact wpAny_bind (wpAny_bind (m := Builtin.Tuple.tupleExact _) (wpAny_newObj_type (wpAny_pure (wpAny_pure ⟨_, rfl, wpAny_pure h⟩)) htake))
    | exact wpAny_bind (wpAny_bind (m := Builtin.Tuple.tupleExact _) (wpAny_newObj_type (wpAny_pure ⟨_, rfl, wpAny_pure h⟩) htake))
def tRev (K : PySem.W.Frag) (te : TE) : TE := fun σ H Q => te σ H fun x H1 => ∃ a xs, x = .ref a ∧ ((SqL K H1 a xs ∧ ∀ p, H1 p = none → Q (.ref p) (upd H1 p (.lst xs.reverse))) ∨ (SqT K H1 a xs ∧ ∀ p, H1 p = none → Q (.ref p) (upd H1 p (.tup xs.reverse))))
theorem pe_rev {te : TE} {k : Nat} {p1 p2 p3 : Pos} (he : PE X e te) : PE X (.Subscript e (.Slice none none (some (.UnaryOp .USub (.Constant (.int 1) k p1) p2)) p3) pos) (tRev X.K te) := by
  refine ⟨fun pins s σ H Q I h => ?_⟩
  refine Subscript_ (thn (he.run pins s σ H _ I h) fun v s1 ⟨x, H1, I1, r1, q1⟩ => ?_)
  obtain ⟨a, xs, ex, q⟩ := q1
  subst ex
  cases r1
  have hst : PO X (some (.UnaryOp .USub (.Constant (.int 1) k p1) p2)) (tPart (tUn (rU fun i => .int (-i)) (tC (.int 1)))) := po_some (pe_un un_neg pe_int)
  refine wpAny_Slice (thn (po_none.run pins s1 σ H1 (fun o H2 => o = none ∧ H2 = H1) I1 ⟨rfl, rfl⟩) fun vl s2 ⟨l, H2, I2, pl, el, e2⟩ => ?_)
  subst el e2
  refine thn (po_none.run pins s2 σ H2 (fun o H3 => o = none ∧ H3 = H2) I2 ⟨rfl, rfl⟩) fun vu s3 ⟨u, H3, I3, pu, eu, e3⟩ => ?_
  subst eu e3
  refine thn (hst.run pins s3 σ H3 (fun o H4 => o = some (-1) ∧ H4 = H3) I3 ⟨1, rfl, -1, rfl, rfl, rfl⟩) fun vs s4 ⟨o, H4, I4, ps, eo, e4⟩ => ?_
  subst eo e4
  have I5 : Inv X pins σ H4 { s4 with heap := s4.heap.push { cls := .type "slice", data := .fields #[vl, vu, vs] } } := I4.kept (t' := s4.toks) fun b ob q => Heap.get?_push_of_some _ q
  show wpAny (model X.prog X.w) X.A (subscriptTail e (.Slice none none (some (.UnaryOp .USub (.Constant (.int 1) k p1) p2)) p3) (.ref a) (.ref s4.heap.objs.size)) (EP X pins σ Q) X.xe { s4 with heap := s4.heap.push { cls := .type "slice", data := .fields #[vl, vu, vs] } }
  rcases q with ⟨hx, q⟩ | ⟨hx, q⟩
  · obtain ⟨its, r, ht, hz⟩ := I5.list hx
    have hlen := r.length
    refine tail_any (ops := [.ref a, .ref s4.heap.objs.size]) ht.isList.typeIs (PySem.slot_list_getitem.lookup) ?_ (by with_unfolding_all rfl)
    refine wpAny_getItem_list_slice ht.isList (Heap.IsSliceOf.new _ vl vu vs) pl pu ps (by decide) ?_ (by rw [List.size_toArray]; omega)
    rw [PySem.W.krv_pick]
    refine ⟨.ref _, _, I5.laid (t' := s4.toks) (o := .lst xs.reverse) (fun b ob q => Heap.get?_push_of_some _ q) (Nat.le_refl _) ?_, rfl, q _ (I5.hok.fresh (Nat.le_refl _))⟩
    exact ⟨by rw [List.length_reverse]; exact hz, _, 0, r.reverse, Heap.get?_push_size _ rfl⟩
  · obtain ⟨its, r, ht, hz⟩ := I5.tuple hx
    have hlen := r.length
    cases pl
    cases pu
    refine tail_any (ops := [.ref a, .ref s4.heap.objs.size]) ht.typeIs (PyProof.Rows.slot_tuple_getitem.lookup) ?_ (by with_unfolding_all rfl)
    refine getItem_tuple_rev ht (Heap.IsSliceOf.new _ _ _ vs) ps ?_ (by rw [List.size_toArray]; omega)
    refine ⟨.ref _, _, I5.laid (t' := s4.toks) (o := .tup xs.reverse) (fun b ob q => Heap.get?_push_of_some _ q) (Nat.le_refl _) ?_, rfl, q _ (I5.hok.fresh (Nat.le_refl _))⟩
    exact ⟨by rw [List.length_reverse]; exact hz, _, r.reverse, IsTup.new _ _⟩
theorem IsAll.rev {K : PySem.W.Frag} {f : Ow} {H : Hp} : ∀ {vs : List V} {ds : List PyData}, IsAll K f H vs ds → IsAll K f H vs.reverse ds.reverse
  | _, _, .nil => .nil
  | v :: vs, d :: ds, .cons h r => by
    rw [List.reverse_cons, List.reverse_cons]
    exact (IsAll.rev r).app (.cons h .nil)
@[simp] def pRev (x : SV) (S : Sto) : Option SV := match x with
  | .d (.list ds) => some (.d (.list ds.reverse))
  | .d (.tuple ds) => some (.d (.tuple ds.reverse))
  | .r j => match S[j]? with
    | some (.lst ds) => some (.d (.list ds.reverse))
    | _ => none
  | _ => none
theorem de_rev {k : Nat} {p1 p2 p3 : Pos} (he : DE X W e ee) : DE X W (.Subscript e (.Slice none none (some (.UnaryOp .USub (.Constant (.int 1) k p1) p2)) p3) pos) (eUn pRev ee) :=
  pe_imp (pe_rev he) fun σV H Q ⟨f, σ, S, r, hE, hS, hr, hq⟩ => by
    refine TX.first hE hS hr (exc_way hq) fun x S1 vx H1 _ h1 s1 k1 e1 r1 => ?_
    cases hp : pRev x S1 with
    | none => rw [hp] at h1; cases h1
    | some z =>
      rw [hp] at h1
      cases h1
      unfold pRev at hp
      split at hp
      · cases hp
        cases r1 with
        | @lst a xs _ g1 g2 =>
        exact ⟨a, xs, rfl, .inl ⟨g1.sq, fun p np => hq _ _ (s1.laid np) (k1.trans (Kp.new np)) (Is.lst ⟨upd_same, s1.free np⟩ (g2.keep (Kp.new np).q (Gr.refl _ _)).rev)⟩⟩
      · cases hp
        cases r1 with
        | @tup a xs _ g1 g2 =>
        exact ⟨a, xs, rfl, .inr ⟨g1.sq, fun p np => hq _ _ (s1.laid np) (k1.trans (Kp.new np)) (Is.tup (.inl ⟨.inl upd_same, s1.free np⟩) (g2.keep (Kp.new np).q (Gr.refl _ _)).rev)⟩⟩
      · split at hp
        · rename_i ds e2
          cases hp
          obtain ⟨a, ea, rfl⟩ := r1
          obtain ⟨xs, g1, g2⟩ := s1.at_ _ _ a e2 ea
          exact ⟨a, xs, rfl, .inl ⟨.inl (.inl g1), fun p np => hq _ _ (s1.laid np) (k1.trans (Kp.new np)) (Is.lst ⟨upd_same, s1.free np⟩ (g2.keep (Kp.new np).q (Gr.refl _ _)).rev)⟩⟩
        · cases hp
      · cases hp
end
end Z
set_option maxRecDepth 100000
set_option maxHeartbeats 1000000
namespace Z
open PySem PySem.Spec PyProof.Rows L2

/-! ## methods of texts and lists -/
section
variable {X : Cx} {W : WX} {e a b : Expr} {ee ea eb : Ex} {pos p0 : Pos}
@[simp] def pUp (x : SV) (_ : Sto) : Option SV := match x with
  | .d (.str z) => if z.length ≤ 5592405 then some (.d (.str (Txt.upper z))) else none
  | _ => none
theorem de_upper (he : DE X W e ee) (hbase : attributeBase e "upper" X.env (eval e X.env) = eval e X.env := by rfl) (hline : (p0.endLine == pos.line) = true := by rfl) : DE X W (.Call (.Attribute e "upper" p0) [] [] pos) (eUn pUp ee) :=
  pe_imp (pe_upper he hbase hline) fun σV H Q ⟨f, σ, S, r, hE, hS, hr, hq⟩ => by
    refine TX.first hE hS hr (exc_way hq) fun x S1 vx H1 _ h1 s1 k1 e1 r1 => ?_
    cases hp : pUp x S1 with
    | none => rw [hp] at h1; cases h1
    | some z =>
      rw [hp] at h1
      cases h1
      unfold pUp at hp
      split at hp
      · split at hp
        · rename_i hz
          cases hp
          cases r1
          exact ⟨⟨_, rfl⟩, _, rfl, rfl, hz, hq _ H1 s1 k1 (Is.str _)⟩
        · cases hp
      · cases hp
def flatD : PyData → Bool
  | .none => true
  | .bool _ => true
  | .int _ => true
  | .str _ => true
  | _ => false
theorem flat_is {K : PySem.W.Frag} {f : Ow} {H : Hp} {v : V} {d : PyData} (h : Is K f H v d) (e : flatD d = true) : flatV v = true := by
  cases h <;> first | rfl | (simp [flatD] at e)
theorem flats_is {K : PySem.W.Frag} {f : Ow} {H : Hp} : ∀ {vs : List V} {ds : List PyData}, IsAll K f H vs ds → ds.all flatD = true → vs.all flatV = true
  | _, _, .nil, _ => rfl
  | _, _, .cons h r, e => by
    rw [List.all_cons, Bool.and_eq_true] at e ⊢
    exact ⟨flat_is h e.1, flats_is r e.2⟩
theorem eqv_flat {K : PySem.W.Frag} {f f' : Ow} {H H' : Hp} {v w : V} {d e : PyData} (h : Is K f H v d) (h' : Is K f' H' w e) (h1 : flatD d = true) (h2 : flatD e = true) : eqV v w = PyData.eqv d e := by
  cases h <;> first
    | (simp [flatD] at h1; done)
    | (cases h' <;> first
        | (simp [flatD] at h2; done)
        | (simp [eqV, PyData.eqv]; done)
        | (simp only [eqV, PyData.eqv, beq_iff_eq]; try rfl))
theorem countP_is {K : PySem.W.Frag} {f f' : Ow} {H H' : Hp} {w : V} {e : PyData} (h' : Is K f' H' w e) (h2 : flatD e = true) : ∀ {vs : List V} {ds : List PyData}, IsAll K f H vs ds → ds.all flatD = true → vs.countP (fun z => eqV z w) = ds.countP fun d => PyData.eqv d e
  | _, _, .nil, _ => rfl
  | _, _, .cons h r, q => by
    rw [List.all_cons, Bool.and_eq_true] at q
    rw [List.countP_cons, List.countP_cons, countP_is h' h2 r q.2, eqv_flat h h' q.1 h2]
def rCntF (K : PySem.W.Frag) : V → List V → Hp → VK → Prop := fun x xs H Q => ∃ (p : Addr) (ys : List V) (y : V), x = .ref p ∧ xs = [y] ∧ SqL K H p ys ∧ flatV y = true ∧ ys.all flatV = true ∧ Q (.int (ys.countP fun z => eqV z y : Nat)) H
theorem countU {y : V} : ∀ {xs : List V} {us : List Value}, Vals xs us → xs.all flatV = true → us.countP (eqU y) = xs.countP fun z => eqV z y
  | _, _, .nil, _ => rfl
  | x :: xs, u :: us, .cons r t, f => by
    rw [List.all_cons, Bool.and_eq_true] at f
    rw [List.countP_cons, List.countP_cons, countU t f.2, eqU_of r f.1]
theorem mt_lcountF : MtR X "list.count" (rCntF X.K) := by
  intro pins s σ H x xs v us Q I rx rxs h
  obtain ⟨p, ys, y, rfl, rfl, hs, fy, fys, q⟩ := h
  cases rx
  obtain ⟨u, rfl, ru⟩ := rxs.one
  obtain ⟨its, rv, ⟨⟨cls, dd, data, sl⟩, n, ho, hc, hdn, hd⟩, hlen⟩ := I.list hs
  simp only at hc hd
  subst hc hd
  refine call_meets PySem.F.slot_list_count ⟨_, ho, rfl⟩ PySem.F.entry_list_count (PySem.F.args_list_count_2 _ _)
    (SeqAt.list_countAt p its.toArray n dd sl u (eqU y)) ⟨ho, fun u' hu' => mem_eqAt ru fy rv fys u' (by simpa using hu'), ?_⟩
  have ec : its.toArray.toList.countP (eqU y) = ys.countP fun z => eqV z y := countU rv fys
  refine ⟨.int (ys.countP (fun z => eqV z y) : Nat), H, I.tok _, ⟨s.toks, ?_⟩, q⟩
  show Value.int ((its.toArray.toList.countP (eqU y) : Nat) : Int) s.toks = _
  rw [ec]
/-- xs.count(y), all flat -/
@[simp] def pCnt : SV → SV → Sto → Option SV := fun x y S => match y with
  | .d e => (asL x S).bind fun ds => if flatD e = true ∧ ds.all flatD = true then some (.d (.int (ds.countP (fun d => PyData.eqv d e) : Nat))) else none
  | _ => none
/-- where y stands first -/
def ixOf (e : PyData) : List PyData → Option Nat
  | [] => none
  | d :: ds => if PyData.eqv d e = true then some 0 else (ixOf e ds).map (· + 1)
theorem ixOf_is {e : PyData} : ∀ {ds : List PyData} {j : Nat}, ixOf e ds = some j → ∃ d, ds[j]? = some d ∧ PyData.eqv d e = true ∧ ∀ (m : Nat) (d' : PyData), m < j → ds[m]? = some d' → PyData.eqv d' e = false
  | [], _, h => by cases h
  | d :: ds, j, h => by
    unfold ixOf at h
    split at h
    · rename_i hd
      cases h
      exact ⟨d, rfl, hd, fun m d' hm => absurd hm (Nat.not_lt_zero _)⟩
    · rename_i hd
      cases e1 : ixOf e ds with
      | none => rw [e1] at h; cases h
      | some i =>
        rw [e1] at h
        cases h
        obtain ⟨d2, h1, h2, h3⟩ := ixOf_is e1
        refine ⟨d2, by simpa using h1, h2, fun m d' hm hd' => ?_⟩
        cases m with
        | zero =>
          have : d' = d := by simpa using hd'.symm
          rw [this]; simpa using hd
        | succ m =>
          have hm : m + 1 < i + 1 := hm
          exact h3 m d' (by omega) (by simpa using hd')
/-- xs.index(y), all flat, y there -/
@[simp] def pIdx : SV → SV → Sto → Option SV := fun x y S => match y with
  | .d e => (asL x S).bind fun ds => if flatD e = true ∧ ds.all flatD = true then (ixOf e ds).map fun j => .d (.int (j : Nat)) else none
  | _ => none
theorem tyL {f : Ow} {S : Sto} {H : Hp} {v : V} {x : SV} {ds : List PyData} (hS : StoR X.K f S H) (r : SvR X.K f H v x) (e : asL x S = some ds) : tyV X.K "list" v H := by
  obtain ⟨p, xs, rfl, h1, _⟩ := asL_is hS r e
  exact .inl ⟨rfl, xs, .inl (.inl h1)⟩
/-- whether x is a list ahead of the arguments -/
@[simp] def eM2 (p : SV → SV → Sto → Option SV) (a b : Ex) (σ : Sg) (S : Sto) : Option (Res SV) := Res.bnd (a σ S) fun x S1 => match asL x S1 with
  | some _ => Res.bnd (b σ S1) fun y S2 => (p x y S2).map fun z => .ok z S2
  | none => none

theorem de_m2 {p : SV → SV → Sto → Option SV} {r : V → List V → Hp → VK → Prop} {σV : L2.St} {H : Hp} {Q : VK} (hk : ∀ (f : Ow) (S : Sto) (H : Hp) (vx vy : V) (x y z : SV) (Q : VK), StoR X.K f S H → SvR X.K f H vx x → SvR X.K f H vy y → p x y S = some z →
    (∀ (v : V) (H' : Hp), StoR X.K f S H' → Kp f H H' → SvR X.K f H' v z → Q v H') → r vx [vy] H Q) (h : TX X W (eM2 p ea eb) σV H Q) : tBM X.K "list" r (TX X W ea) (TXs X W (esCons eb esNil)) σV H Q := by
  obtain ⟨f, σ, S, q, hE, hS, hr, hq⟩ := h
  have hx := exc_way hq
  unfold eM2 at hr
  refine TX.first hE hS hr hx fun x S1 vx H1 _ h1 s1 k1 e1 r1 => ?_
  cases hl : asL x S1 with
  | none => rw [hl] at h1; cases h1
  | some ds =>
  rw [hl] at h1
  refine ⟨tyL s1 r1 hl, ?_⟩
  cases hb : eb σ S1 with
  | none => rw [hb] at h1; cases h1
  | some r2 =>
  rw [hb] at h1
  cases r2 with
  | exc y S2 =>
    cases h1
    exact ⟨f, σ, S1, .exc y S2, e1, s1, by simp [hb], XS.kp hq k1⟩
  | ok y S2 =>
  rw [bnd_ok] at h1
  cases hp : p x y S2 with
  | none => rw [hp] at h1; cases h1
  | some z =>
  rw [hp] at h1
  cases h1
  refine ⟨f, σ, S1, .ok [y] S2, e1, s1, by simp [hb], fun vs H2 s2 k2 r2 => ?_⟩
  cases r2 with
  | cons r2 r3 =>
  cases r3
  exact hk f S2 H2 vx _ x y z Q s2 (r1.kp k2) r2 hp fun v H' s' k' r' => hq v H' s' ((k1.trans k2).trans k') r'
theorem de_lcount (ho : DE X W a ea) (ha : DE X W b eb) (hbase : attributeBase a "count" X.env (eval a X.env) = eval a X.env := by rfl)
    (hfew : ((backTo pos (starEach [b] X.env)).all (fun x => !x.1) && (backToKw pos (keywordEach [] X.env)).all (fun x => x.1.isSome) && decide ([b].length + ([] : List Keyword).length + (if ([] : List Keyword).isEmpty then 0 else 1) < 30)) = true := by rfl)
    (hline : (p0.endLine == pos.line) = true := by rfl) (hs : starEach [b] X.env = (false, eval b X.env) :: starEach [] X.env := by rfl) (hpl : (backTo pos (starEach [] X.env)).any (·.1) = false := by rfl) :
    DE X W (.Call (.Attribute a "count" p0) [b] [] pos) (eM2 pCnt ea eb) :=
  pe_imp (pe_bm PySem.F.plainAttrs_list PySem.F.slot_list_count PySem.F.type_list_count mt_lcountF ho (da_cons ha da_nil hs) hbase hfew hline hs hpl) fun σV H Q h => de_m2 (fun f S H vx vy x y z Q hS rx ry hp hq => by
    unfold pCnt at hp
    split at hp
    · rename_i e
      cases hl : asL x S with
      | none => rw [hl] at hp; cases hp
      | some ds =>
      rw [hl] at hp
      dsimp only [Option.bind_some] at hp
      split at hp
      · rename_i hf
        cases hp
        obtain ⟨p, xs, rfl, h1, h2⟩ := asL_is hS rx hl
        refine ⟨p, xs, vy, rfl, rfl, .inl (.inl h1), flat_is ry hf.1, flats_is h2 hf.2, ?_⟩
        rw [countP_is ry hf.1 h2 hf.2]
        exact hq _ H hS (Kp.refl _ _) (Is.int _)
      · cases hp
    · cases hp) h
theorem de_lindex (ho : DE X W a ea) (ha : DE X W b eb) (hbase : attributeBase a "index" X.env (eval a X.env) = eval a X.env := by rfl)
    (hfew : ((backTo pos (starEach [b] X.env)).all (fun x => !x.1) && (backToKw pos (keywordEach [] X.env)).all (fun x => x.1.isSome) && decide ([b].length + ([] : List Keyword).length + (if ([] : List Keyword).isEmpty then 0 else 1) < 30)) = true := by rfl)
    (hline : (p0.endLine == pos.line) = true := by rfl) (hs : starEach [b] X.env = (false, eval b X.env) :: starEach [] X.env := by rfl) (hpl : (backTo pos (starEach [] X.env)).any (·.1) = false := by rfl) :
    DE X W (.Call (.Attribute a "index" p0) [b] [] pos) (eM2 pIdx ea eb) :=
  pe_imp (pe_bm PySem.F.plainAttrs_list PySem.F.slot_list_index PySem.F.type_list_index mt_index ho (da_cons ha da_nil hs) hbase hfew hline hs hpl) fun σV H Q h => de_m2 (fun f S H vx vy x y z Q hS rx ry hp hq => by
    unfold pIdx at hp
    split at hp
    · rename_i e
      cases hl : asL x S with
      | none => rw [hl] at hp; cases hp
      | some ds =>
      rw [hl] at hp
      dsimp only [Option.bind_some] at hp
      split at hp
      · rename_i hf
        cases hi : ixOf e ds with
        | none => rw [hi] at hp; cases hp
        | some j =>
        rw [hi] at hp
        cases hp
        obtain ⟨p, xs, rfl, h1, h2⟩ := asL_is hS rx hl
        obtain ⟨d, hd, he, hno⟩ := ixOf_is hi
        obtain ⟨v, hv, iv⟩ := h2.get hd
        have fl : ∀ {m : Nat} {d : PyData}, ds[m]? = some d → flatD d = true := fun {m d} h => List.all_eq_true.mp hf.2 d (List.mem_of_getElem? h)
        refine ⟨p, xs, vy, j, v, rfl, rfl, .inl (.inl h1), flat_is ry hf.1, flats_is h2 hf.2, hv, ?_, fun m z' hm hz' => ?_, hq _ H hS (Kp.refl _ _) (Is.int _)⟩
        · rw [eqv_flat iv ry (fl hd) hf.1]
          exact he
        · have hml : m < ds.length := by
            have := (List.getElem?_eq_some_iff.mp hd).1
            omega
          obtain ⟨v', hv', iv'⟩ := h2.get (List.getElem?_eq_getElem hml)
          rw [hz'] at hv'
          cases hv'
          rw [eqv_flat iv' ry (fl (List.getElem?_eq_getElem hml)) hf.1]
          exact hno m _ hm (List.getElem?_eq_getElem hml)
      · cases hp
    · cases hp) h
/-! ## is -/
@[simp] def pIs : SV → SV → Sto → Option SV := fun x y _ => match y with
  | .d .none => match x with
    | .d .none => some (.d (.bool true))
    | .d _ => some (.d (.bool false))
    | _ => none
  | .d (.bool b) => match x with
    | .d (.bool a) => some (.d (.bool (decide (a = b))))
    | _ => none
  | _ => none
@[simp] def pIsNot : SV → SV → Sto → Option SV := fun x y _ => match y with
  | .d .none => match x with
    | .d .none => some (.d (.bool false))
    | .d _ => some (.d (.bool true))
    | _ => none
  | .d (.bool b) => match x with
    | .d (.bool a) => some (.d (.bool (!decide (a = b))))
    | _ => none
  | _ => none
theorem is_non {K : PySem.W.Frag} {f : Ow} {H : Hp} {v : V} {d : PyData} (h : Is K f H v d) (n : d ≠ .none) : v ≠ .non := by
  intro e
  subst e
  cases h
  exact n rfl
theorem opk_is : OpK X (fun x y H Q => (y = .non ∧ Q (.bl (decide (x = .non))) H) ∨ (∃ a b, x = .bl a ∧ y = .bl b ∧ Q (.bl (decide (a = b))) H)) pIs := by
  intro f S H vx vy x y z Q hS rx ry hp hq
  unfold pIs at hp
  split at hp
  · cases ry
    split at hp
    · cases hp
      cases rx
      exact .inl ⟨rfl, by simpa using hq _ H hS (Kp.refl _ _) (Is.bl true)⟩
    · rename_i d hd
      cases hp
      have := is_non rx (fun e => hd (by rw [e]))
      refine .inl ⟨rfl, ?_⟩
      rw [decide_eq_false this]
      exact hq _ H hS (Kp.refl _ _) (Is.bl false)
    · cases hp
  · cases ry
    split at hp
    · cases hp
      cases rx
      exact .inr ⟨_, _, rfl, rfl, hq _ H hS (Kp.refl _ _) (Is.bl _)⟩
    · cases hp
  · cases hp
theorem opk_isnot : OpK X (fun x y H Q => (y = .non ∧ Q (.bl (!decide (x = .non))) H) ∨ (∃ a b, x = .bl a ∧ y = .bl b ∧ Q (.bl (!decide (a = b))) H)) pIsNot := by
  intro f S H vx vy x y z Q hS rx ry hp hq
  unfold pIsNot at hp
  split at hp
  · cases ry
    split at hp
    · cases hp
      cases rx
      exact .inl ⟨rfl, by simpa using hq _ H hS (Kp.refl _ _) (Is.bl false)⟩
    · rename_i d hd
      cases hp
      have := is_non rx (fun e => hd (by rw [e]))
      refine .inl ⟨rfl, ?_⟩
      rw [decide_eq_false this]
      exact hq _ H hS (Kp.refl _ _) (Is.bl true)
    · cases hp
  · cases ry
    split at hp
    · cases hp
      cases rx
      exact .inr ⟨_, _, rfl, rfl, hq _ H hS (Kp.refl _ _) (Is.bl _)⟩
    · cases hp
  · cases hp
theorem de_is (ha : DE X W a ea) (hb : DE X W b eb) : DE X W (.Compare a [.Is] [b] pos) (eBin pIs ea eb) := de_cmp (OpR.or op_isN op_is_bl) opk_is ha hb (nomark _)
theorem de_isnot (ha : DE X W a ea) (hb : DE X W b eb) : DE X W (.Compare a [.IsNot] [b] pos) (eBin pIsNot ea eb) := de_cmp (OpR.or op_notN op_isnot_bl) opk_isnot ha hb (nomark _)
theorem dt_is (ha : DE X W a ea) (hb : DE X W b eb) : DT X W (.Compare a [.Is] [b] pos) (tVal (eBin pIs ea eb)) := dt_cmp (OpR.or op_isN op_is_bl) opk_is ha hb (nomark _)
theorem dt_isnot (ha : DE X W a ea) (hb : DE X W b eb) : DT X W (.Compare a [.IsNot] [b] pos) (tVal (eBin pIsNot ea eb)) := dt_cmp (OpR.or op_notN op_isnot_bl) opk_isnot ha hb (nomark _)
/-! ## x, y, z = a, b, c -/
@[simp] def sPar3 (i j l : Nat) (as : Exs) (σ : Sg) (S : Sto) : Option Flow := Sm.bnd (as σ S) fun vs S1 => match vs with
  | [x, y, z] => some (.nx (((σ.set i (some x)).set j (some y)).set l (some z)) S1)
  | _ => none
theorem ds_par3 {i j l : Nat} {x y z : Str} {a b c : Expr} {fs : Exs} {px py pz pt : Pos} {kt k2 pt2} (hc : X.calm = true) (hN : X.N.Nodup) (ha : DA X W [a, b, c] fs) (hi : X.N[i]? = some x := by rfl) (hj : X.N[j]? = some y := by rfl) (hl : X.N[l]? = some z := by rfl) (hij : i ≠ j := by decide) (hil : i ≠ l := by decide) (hjl : j ≠ l := by decide)
    (hx : X.env.scope.names.lookup x = some .local := by rfl) (hy : X.env.scope.names.lookup y = some .local := by rfl) (hz : X.env.scope.names.lookup z = some .local := by rfl)
    (hw : swappedStores [.Tuple [.Name x px, .Name y py, .Name z pz] kt pt] (.Tuple [a, b, c] k2 pt2) X.env = pure (some [x, y, z]) := by rfl)
    (hs : swapsWithSole [.Tuple [.Name x px, .Name y py, .Name z pz] kt pt] (.Tuple [a, b, c] k2 pt2) pos.line X.env = pure false := by rfl) :
    DS X W (.Assign [.Tuple [.Name x px, .Name y py, .Name z pz] kt pt] (.Tuple [a, b, c] k2 pt2) pos) (sPar3 i j l fs) :=
  ps_imp (ps_par3 hc hN hi hj hl hij hil hjl hx hy hz ha hw hs) fun D σV H ⟨f, σ, S, r, hE, hS, hr, hf⟩ => by
    refine TXs.stm hE hS hr hf fun vs S1 us H1 h1 f1 s1 k1 e1 r1 => ?_
    split at h1
    · cases h1
      cases r1 with
      | cons p1 q1 =>
      cases q1 with
      | cons p2 q2 =>
      cases q2 with
      | cons p3 q3 =>
      cases q3
      exact ⟨_, _, _, rfl, ReS.now f1 s1 (((e1.set i p1).set j p2).set l p3)⟩
    · cases h1
/-! ## {} -/
theorem de_dict0 : DE X W (.Dict [] [] pos) (eLit (.dict [])) := pe_imp pe_dnewK fun σV H Q ⟨f, σ, S, r, hE, hS, he, hq⟩ => by
  cases he
  exact fun p np => hq _ _ (hS.laid np) (Kp.new np) (Is.dic (.inl upd_same) (hS.free np) .nil)
end
end Z
set_option maxRecDepth 100000
set_option maxHeartbeats 2000000
namespace Z
open PySem PySem.Spec PyProof.Rows L2 LamX

/-! ## classes of errors, all at once -/
structure Kl (K : PySem.W.Frag) (mg : Str → Option Value) (n : Str) where
  C : Addr
  ns : PySem.W.nsIn K mainGlobals n = some (some (.ref C))
  m : mg n = some (.ref C)
  kC : PySem.W.keepIn K (.ref C) = true
  cl : PySem.W.isClsIn K C = true
  ty : PySem.W.typeIn K (.ref C) = some (.type "type")
  ex : PySem.W.subIn K (.ref C) (.type "BaseException") = some true
  ss : PySem.W.subIn K (.ref C) (.ref C) = some true
  ga : PySem.W.findIn K (.ref C) "__getattribute__" = some (some (.builtin "BaseException.__getattribute__"))
  gg : PySem.W.findIn K (.ref C) "__getattr__" = some none
  hd : PySem.W.hasDictIn K C = true
  ha : PySem.W.findIn K (.ref C) "__class__" = some (some (.builtin "object.__class__"))
  hm : PySem.W.mroIn K C (.type "object") = some true
/-- what all classes share -/
structure KlG (K : PySem.W.Frag) : Prop where
  hn : PySem.W.specialIn K (.builtin "object.__class__") "__get__" = some (some (.builtin "getset_descriptor.__get__"))
  ht : PySem.W.takesIn K (.builtin "object.__class__") = some true
section
variable {K : PySem.W.Frag} {mg : Str → Option Value} {n n2 : Str}
theorem Kl.isC (k : Kl K mg n) (G : KlG K) : IsC K k.C := ⟨k.cl, k.ga, k.gg, k.ex, k.hd, k.ha, G.hn, G.ht, k.hm⟩
theorem Kl.xf (k : Kl K mg n) : XfC K k.C := ⟨k.ga, k.gg, k.ex, k.hd⟩
def Kl.msg (k : Kl K mg n) (h : PySem.W.excIn K k.C [.type "ValueError", .type "Exception", .type "BaseException", .type "object"] "ValueError.__new__" = true) : MsgC K mg n := ⟨k.C, k.ns, k.m, h, k.kC, k.ex, k.ty⟩
theorem kitCls_of {t : Value} {C : Addr} {b : Bool} (cl : PySem.W.isClsIn K C = true) (ty : PySem.W.typeIn K (.ref C) = some (.type "type")) (h : PySem.W.subIn K t (.ref C) = some b) : PySem.W.kitCls K t (.ref C) = some b := by
  unfold PySem.W.kitCls
  have e : ((PySem.W.clsIn K C).isSome && PySem.W.typeIn K (.ref C) == some (.type "type")) = true := by
    rw [ty]
    have : (PySem.W.clsIn K C).isSome = true := cl
    rw [this]
    simp
  simp only [e, if_true]
  exact h
/-- which classes are told, and whether they are below c -/
abbrev Subs := List (Str × Bool)
def SubsOk (K : PySem.W.Frag) (c : Value) (l : Subs) : Prop := ∀ p ∈ l, ∃ D, PySem.W.nsIn K mainGlobals p.1 = some (some (.ref D)) ∧ IsC K D ∧ PySem.W.kitOne K (.ref D) c = some p.2 ∧ PySem.W.kitCls K (.ref D) c = some p.2
theorem SubsOk.nil {c : Value} : SubsOk K c [] := fun p h => nomatch h
theorem SubsOk.cons {b : Bool} {l : Subs} (k : Kl K mg n) (q : Kl K mg n2) (G : KlG K) (h : PySem.W.subIn K (.ref k.C) (.ref q.C) = some b) (r : SubsOk K (.ref q.C) l) : SubsOk K (.ref q.C) ((n, b) :: l) := fun p hp => by
  rcases List.mem_cons.mp hp with e | hp
  · subst e
    have h2 := kitCls_of q.cl q.ty h
    refine ⟨k.C, k.ns, k.isC G, ?_, h2⟩
    unfold PySem.W.kitOne
    by_cases e : (Value.ref k.C == Value.ref q.C) = true
    · rw [if_pos e]
      have e2 : Value.ref k.C = Value.ref q.C := by simpa using e
      rw [e2, q.ss] at h
      exact h
    · rw [if_neg e]
      exact h2
  · exact r p hp
theorem SubsOk.consB {b : Bool} {l : Subs} {T : String} (k : Kl K mg n) (G : KlG K) (hk : PySem.W.kitMeta T = true) (h : PySem.W.subIn K (.ref k.C) (.type T) = some b) (r : SubsOk K (.type T) l) : SubsOk K (.type T) ((n, b) :: l) := fun p hp => by
  rcases List.mem_cons.mp hp with e | hp
  · subst e
    have h2 : PySem.W.kitCls K (.ref k.C) (.type T) = some b := by
      unfold PySem.W.kitCls
      simp only [hk, if_true]
      exact h
    refine ⟨k.C, k.ns, k.isC G, ?_, h2⟩
    unfold PySem.W.kitOne
    rw [if_neg (by simp)]
    exact h2
  · exact r p hp
theorem SubsOk.look {c : Value} {l : Subs} (S : SubsOk K c l) {z : Str} {u : Value} {b : Bool} (h1 : PySem.W.nsIn K mainGlobals z = some (some u)) (h2 : l.lookup z = some b) : ∃ D, u = .ref D ∧ IsC K D ∧ PySem.W.kitOne K (.ref D) c = some b ∧ PySem.W.kitCls K (.ref D) c = some b := by
  obtain ⟨D, e1, e2, e3, e4⟩ := S (z, b) (PySem.mem_of_lookup h2)
  have e1 : PySem.W.nsIn K mainGlobals z = some (some (.ref D)) := e1
  rw [h1] at e1
  cases e1
  exact ⟨D, rfl, e2, e3, e4⟩
theorem SubsOk.exm {c : Value} {l : Subs} (S : SubsOk K c l) (hc : PySem.W.subIn K c (.type "BaseException") = some true) {z : Str} {u : Value} {b : Bool} (h1 : PySem.W.nsIn K mainGlobals z = some (some u)) (h2 : l.lookup z = some b) : PySem.W.exmOne K u c = some b := by
  obtain ⟨D, rfl, _, _, e4⟩ := S.look h1 h2
  unfold PySem.W.exmOne
  rw [if_pos (by rw [hc]; simp)]
  exact e4
end
/-- own exceptions that keep a field: the class from its text -/
theorem clV_ref (C : Addr) : ClV (.ref C) (.ref C) := fun u h => h
theorem clV_ty (n : String) : ClV (.ty n) (.type n) := fun u h => h
section
variable {X : Cx} {W : WX} {a : Addr} {oe : Obj} {cls : Value} {d : Option Addr} {pn : List (Addr × Obj)} {e : Expr} {ee : Ex} {n : Str} {l : Subs} {p0 p1 pos : Pos}
theorem de_isK (hz : Zc cls d oe) (hf : ∃ vs, oe.data = .fields vs) (hm : X.mg "isinstance" = none) (he : DE (X.suite a ((a, oe) :: pn)) W e ee) (k : Kl X.K X.mg n) (S : SubsOk X.K (.ref k.C) l) (hgn : Gl (X.suite a ((a, oe) :: pn)) n := by rfl) (hdb : (n == ("__debug__" : Str)) = false := by decide) (hg : Gl X "isinstance" := by rfl)
    (h1 : starEach [e, .Name n p1] X.env = (false, eval e X.env) :: starEach [.Name n p1] X.env := by rfl) (h2 : starEach [.Name n p1] X.env = (false, eval (.Name n p1) X.env) :: starEach [] X.env := by rfl)
    (hpl : (backTo pos (starEach [.Name n p1] X.env)).any (·.1) = false := by rfl) : DE (X.suite a ((a, oe) :: pn)) W (.Call (.Name "isinstance" p0) [e, .Name n p1] [] pos) (eIsX a cls d (fun z => l.lookup z) ee) :=
  de_isX hz hf hm he (pe_glob hgn k.m (show RelV (.ref k.C) (.ref k.C) from rfl) hdb) (clV_ref k.C) (fun z u b h1 h2 => let ⟨D, e1, e2, e3, _⟩ := S.look h1 h2; ⟨D, e1, e2, e3⟩) hg h1 h2 hpl
theorem de_isB {T : String} (hz : Zc cls d oe) (hf : ∃ vs, oe.data = .fields vs) (hm : X.mg "isinstance" = none) (he : DE (X.suite a ((a, oe) :: pn)) W e ee) (hmT : X.mg (Str.ofString T) = none) (hb : bootBuiltins (Str.ofString T) = some (.type T)) (S : SubsOk X.K (.type T) l) (hgn : Gl (X.suite a ((a, oe) :: pn)) (Str.ofString T) := by rfl)
    (hnn : Str.ofString T ≠ "__name__" := by decide) (hdb : (Str.ofString T == ("__debug__" : Str)) = false := by decide) (hg : Gl X "isinstance" := by rfl)
    (h1 : starEach [e, .Name (Str.ofString T) p1] X.env = (false, eval e X.env) :: starEach [.Name (Str.ofString T) p1] X.env := by rfl) (h2 : starEach [.Name (Str.ofString T) p1] X.env = (false, eval (.Name (Str.ofString T) p1) X.env) :: starEach [] X.env := by rfl)
    (hpl : (backTo pos (starEach [.Name (Str.ofString T) p1] X.env)).any (·.1) = false := by rfl) : DE (X.suite a ((a, oe) :: pn)) W (.Call (.Name "isinstance" p0) [e, .Name (Str.ofString T) p1] [] pos) (eIsX a cls d (fun z => l.lookup z) ee) :=
  de_isX hz hf hm he (pe_bltn (v := .ty T) hgn hmT hb rfl hnn hdb) (clV_ty T) (fun z u b h1 h2 => let ⟨D, e1, e2, e3, _⟩ := S.look h1 h2; ⟨D, e1, e2, e3⟩) hg h1 h2 hpl
/-- e.f of a caught error of the class n -/
theorem de_fldK {f : Str} (hz : Zc cls d oe) (hf : ∃ vs, oe.data = .fields vs) (k : Kl X.K X.mg n) (hno : PySem.W.findIn X.K (.ref k.C) f = some none) (he : DE (X.suite a ((a, oe) :: pn)) W e ee)
    (hb : attributeBase e f X.env (eval e X.env) = eval e X.env := by rfl) : DE (X.suite a ((a, oe) :: pn)) W (.Attribute e f pos) (eFld a cls d f (fun z => z == n) ee) :=
  de_fld (C := k.C) hz hf (fun z u h1 h2 => by
    have e : z = n := by simpa using h2
    rw [e, k.ns] at h1
    cases h1
    rfl) k.xf hno he hb
/-- a clause `except n as m` -/
theorem clsD_cons {nm : Str} {i : Nat} {l : Subs} {m : Addr → Value → Option Addr → Sm} {b0 : Stmt} {su : List Stmt} {np hp : Pos} {hds : List ExceptHandler} {cs : List CD} (k : Kl X.K X.mg n) (S : SubsOk X.K (.ref k.C) l) (hg : Gl X n) (hdb : (n == ("__debug__" : Str)) = false) (hi : X.N[i]? = some nm) (hln : X.env.kindOf nm = some .local)
    (hsu : ∀ (a : Addr) (oe : Obj) (cls : Value) (d : Option Addr) (pn : List (Addr × Obj)), Zc cls d oe → (∃ vs, oe.data = .fields vs) → DB (X.suite a ((a, oe) :: pn)) W0 (b0 :: su) (m a cls d)) (r : ClsD X hds cs) :
    ClsD X (.ExceptHandler (some (.Name n np)) (some nm) (b0 :: su) hp :: hds) (⟨i, fun z => l.lookup z, m⟩ :: cs) :=
  .cons (q := ⟨i, fun z => l.lookup z, m⟩) ⟨hg, hdb, .inl k.m⟩ hi hln (fun y cls b h1 h2 => S.exm k.ex h1 h2) hsu r
end
/-- the context of a lambda's body -/
theorem gd_lam {X : Cx} {A : Around} {outer : List Env} {s : Shared} {H : Hp} {E : XK} {scope : Scope} {f c2 : Addr} {k : Nat} (nd : X.N.Nodup) (hr : Room k (A.deeper (lamEnv X scope s.heap.objs.size f c2))) (hg : A.guards = some []) : Gd (lamCx X A outer s H E scope f c2) (WE E) k :=
  ⟨hr, hg, rfl, nd, takes_of rfl rfl rfl rfl, passes_of rfl⟩
theorem Gq.q {X : Cx} (g : Gq X) : Gq X := g
/-- an own class of errors that keep a field, from what is written of it -/
noncomputable def fld_mk {P : Program} {w : World} {K : PySem.W.Frag} {mg : Str → Option Value} {base : Heap} {n f : Str} {B nid iid : String} {bmB : List Value} {fI : Addr} {qual : Str} {params : Arguments} {scope : Scope} {kV doc pm cdv ct oc : Value} {an od : Option Addr} {osl : Array (Option Value)} {sf vn : Str} {p1 p2 p3 p4 p5 p6 p7 p8 p9 p10 : Pos}
    (k : Kl K mg n) (KB : KBase B nid iid bmB) (made : PySem.W.excInitIn K k.C bmB nid = true) (over : PySem.W.excOver K k.C bmB = true) (sa : PySem.W.findIn K (.ref k.C) "__setattr__" = some (some (.builtin "object.__setattr__"))) (hno : PySem.W.findIn K (.ref k.C) f = some none)
    (vV : PySem.W.findCls K (.type B) (.type "type") "__init__" = some (.val (.builtin iid))) (hmB : mg (Str.ofString B) = none) (iC : PySem.W.findIn K (.ref k.C) "__init__" = some (some (.ref fI))) (tI : PySem.W.typeIn K (.ref fI) = some (.type "function"))
    (lk : K.lookup fI = some ⟨oc, od, .func (PySem.W.fnOf "__init__" qual params [.Expr (.Call (.Attribute (.Name (Str.ofString B) p1) "__init__" p2) [.Name sf p3, .Name vn p4] [] p5) p6, .Assign [.Attribute (.Name sf p7) f p8] (.Name vn p9) p10] scope .none kV doc pm an cdv ct), osl⟩)
    (hcd : PySem.W.codeIn K cdv qual = true) (S : FnScope [sf, vn] [sf, vn] scope) (hgB : scope.names.lookup (Str.ofString B) = some .globalImplicit) (hsf : scope.names.lookup sf = some .local) (hvn : scope.names.lookup vn = some .local)
    (hc : ∀ env : Env, env.scope = scope → ∃ pl : Sem Bool, eval (.Call (.Attribute (.Name (Str.ofString B) p1) "__init__" p2) [.Name sf p3, .Name vn p4] [] p5) env = (do
      let ov ← eval (.Name (Str.ofString B) p1) env
      standAt p2.atName
      let (m, fst) ← holding [ov] (getMethod ov "__init__" pl)
      callWith p5 m fst (backTo p5 (starEach [.Name sf p3, .Name vn p4] env)) (backToKw p5 (keywordEach [] env))))
    (hb : Binds K (PySem.W.fnOf "__init__" qual params [.Expr (.Call (.Attribute (.Name (Str.ofString B) p1) "__init__" p2) [.Name sf p3, .Name vn p4] [] p5) p6, .Assign [.Attribute (.Name sf p7) f p8] (.Name vn p9) p10] scope .none kV doc pm an cdv ct) [sf, vn] [])
    (hn : Str.ofString B ≠ "__name__" := by decide) (hdb : (Str.ofString B == ("__debug__" : Str)) = false := by decide)
    (d1 : (sf == ("__debug__" : Str)) = false := by decide) (d2 : (sf == ("__classdict__" : Str)) = false := by decide) (d3 : (vn == ("__debug__" : Str)) = false := by decide) (d4 : (vn == ("__classdict__" : Str)) = false := by decide) : FldC P w K mg base n f :=
  have T : KeepC K k.C bmB nid := ⟨made, over, k.hd, sa, k.ex, k.ty, k.kC⟩
  ⟨k.C, B, nid, iid, bmB, k.ns, k.m, KB, T, fI, iC, tI, _, [sf, vn], fn_keep KB T hno vV hmB lk hcd S hgB hsf hvn hc hn hdb d1 d2 d3 d4, hb⟩
end Z
namespace Z
open PySem
/-- a lambda's name in the def x -/
abbrev lamQ (x : Str) : Str := (x ++ ".<locals>.") ++ "<lambda>"
theorem bt_IndexError : bootBuiltins (Str.ofString "IndexError") = some (.type "IndexError") := by decide +kernel
theorem bt_LookupError : bootBuiltins (Str.ofString "LookupError") = some (.type "LookupError") := by decide +kernel
theorem bt_KeyError : bootBuiltins (Str.ofString "KeyError") = some (.type "KeyError") := by decide +kernel
end Z
namespace Z
open PySem
/-- an item of a class's body -/
def clsItem (s : Stmt) (j : Nat) : Stmt := match s with
  | .ClassDef _ _ _ b _ _ _ _ _ _ _ => b.getD j (.Pass ⟨0, 0, 0, 0⟩)
  | _ => .Pass ⟨0, 0, 0, 0⟩
end Z
set_option maxRecDepth 100000
set_option maxHeartbeats 2000000
namespace Z
open PySem PySem.Spec PyProof.Rows L2 LamX

/-! ## a lambda of one parameter that captures nothing, handed to a def as its second argument -/
abbrev tl0 : XK → Hp → VK → Prop := fun _ _ _ => True
abbrev th0 : Th := fun _ => none
abbrev F0 : XK := fun _ _ _ => False
abbrev svP (p c : Addr) (q : Str) : SV := .t p c q tl0 th0
/-- what the lambda makes of its argument -/
def pOf (ee : Ex) (v : SV) (S : Sto) : Option (PyData × Sto) := match ee [some v] S with
  | some (.ok (.d u) S2) => some (u, S2)
  | _ => none
open Classical in
@[simp] noncomputable def ePr (p c : Addr) (q : Str) (i : Nat) (ee : Ex) (fs : Exs) (σ : Sg) (S : Sto) : Option (Res SV) :=
  if σ[i]? = some (some (svP p c q)) then Res.bnd (fs σ S) fun xs S1 => match xs with
    | [v] => (pOf ee v S1).map fun r => .ok (.d r.1) r.2
    | _ => none
  else none
theorem thR0 {K : PySem.W.Frag} {f : Ow} {H : Hp} : ThR K f H tl0 th0 := fun f2 H2 S2 r E Q kq g p hS he hr => nomatch he
/-- the context of its body -/
abbrev pCx (X : Cx) (A : Around) (outer : List Env) (s : Shared) (H : Hp) (scope : Scope) (f c2 : Addr) (y : Str) : Cx := cxOf (L2.CX X.prog X.w) X.prog X.w X.K X.mg X.base [y] (lamNm X) scope f (.ref c2) A outer s H F0
section
variable {X : Cx} {pins : List (Addr × Obj)} {σ : L2.St} {H : Hp} {s : Shared}
theorem de_pred {CXg : CXT} {Eg : XK} {Ng : List Str} {qg : Str} {sg : Scope} {g f c2 : Addr} {cdg pm ctv : Value} {params : Arguments} {body : Expr} {scope : Scope} {k i : Nat} {nm y : Str} {W : WX} {ee : Ex} {b : Expr} {es : List Expr} {fs : Exs} {p1 p2 : Pos}
    (I : Inv X pins σ H s) (L : FnScope [y] [y] scope) (hcl : cloFrom X.env.cells scope.names [] = []) (hf : s.heap.get? f = some (lamOb X params body scope pm c2 ctv)) (hfn : H f = none) (hfr : f ∉ frs X.stack)
    (hbind : ∀ u, bindArgs (PySem.W.kla_fn "<lambda>" (lamNm X) params body scope [] pm (.ref c2) ctv) ⟨[u], []⟩ = pure [(y, u)])
    (tk : Takes (cxOf CXg X.prog X.w X.K X.mg X.base Ng qg sg g cdg X.A X.stack s H Eg).nox W) (hr : Room (k + 1) (X.A.deeper (envOfC qg sg s.heap.objs.size g cdg))) (hgd : X.A.guards = some [])
    (hbody : ∀ (A : Around) (outer : List Env) (s : Shared) (H : Hp), Gd (pCx X A outer s H scope f c2 y) (Wo F0) k → DE (pCx X A outer s H scope f c2 y) (Wo F0) body ee)
    (hN : Ng[i]? = some nm) (hv : Vis sg nm) (hd : (nm == ("__debug__" : Str)) = false) (hcd : (nm == ("__classdict__" : Str)) = false)
    (ha : DA (cxOf CXg X.prog X.w X.K X.mg X.base Ng qg sg g cdg X.A X.stack s H Eg).nox W (b :: es) fs)
    (hst : starEach (b :: es) (envOfC qg sg s.heap.objs.size g cdg) = (false, eval b (envOfC qg sg s.heap.objs.size g cdg)) :: starEach es (envOfC qg sg s.heap.objs.size g cdg)) (hpl : (backTo p2 (starEach es (envOfC qg sg s.heap.objs.size g cdg))).any (·.1) = false) :
    DE (cxOf CXg X.prog X.w X.K X.mg X.base Ng qg sg g cdg X.A X.stack s H Eg).nox W (.Call (.Name nm p1) (b :: es) [] p2) (ePr f c2 (lamNm X) i ee fs) := by
  refine ⟨fun pinsZ sZ σZ HZ Q IZ ⟨fo, τ, S, r, hE, hS, hr2, hq⟩ => ?_⟩
  unfold ePr at hr2
  split at hr2
  case isFalse => cases hr2
  rename_i h0
  obtain ⟨v, ev, rv, rc, nc, rt⟩ := hE.get i _ h0
  subst rv
  have first := (pe_var (pos := p1) (i := i) hN hv hd hcd).run pinsZ sZ σZ HZ (fun v H1 => v = .ref f ∧ H1 = HZ) IZ ⟨.ref f, ev, rfl, rfl⟩
  refine wpAny_Call_Name_kw (thn first fun u s1 ⟨v, H1, I1, r1, ev, eH⟩ => ?_)
  subst ev eH
  obtain rfl : u = Value.ref f := r1
  have of1 : s1.heap.get? f = some (lamOb X params body scope pm c2 ctv) := I1.base.keep f _ hf hfn hfr (fun z => nomatch (show f ∈ ([] : List Addr) from z))
  have hA : TXs (cxOf CXg X.prog X.w X.K X.mg X.base Ng qg sg g cdg X.A X.stack s H Eg).nox W fs σZ H1 (fun vs H2 => ∃ (S1 : Sto) (v0 : SV) (S2 : Sto) (u : PyData), StoR X.K fo S1 H2 ∧ Kp fo H1 H2 ∧ Paired (SvR X.K fo H2) vs [v0] ∧ ee [some v0] S1 = some (.ok (.d u) S2) ∧ (∀ w H3, StoR X.K fo S2 H3 → Kp fo H1 H3 → SvR X.K fo H3 w (.d u) → Q w H3)) := by
    refine TXs.first hE hS hr2 (exc_way hq) fun xs S1 vs H2 _ h1 sS kk _ pr => ?_
    split at h1
    case h_2 => cases h1
    rename_i v0 _
    unfold pOf at h1
    split at h1
    case h_2 => cases h1
    rename_i u S2 he
    cases h1
    exact ⟨S1, v0, S2, u, sS, kk, pr, he, hq⟩
  refine PySem.W.callWith_F (env := envOfC qg sg s.heap.objs.size g cdg) ⟨_, _, _, _, of1⟩ (thn (ha.run p2 pinsZ s1 σZ H1 _ I1 hA) fun us s2 ⟨vs, H2, I2, rvs, S1, v0, S2, u, sS, kk, pr, he, hQ⟩ => ?_) hst hpl
  have of2 : s2.heap.get? f = some (lamOb X params body scope pm c2 ctv) := I2.base.keep f _ hf hfn hfr (fun z => nomatch (show f ∈ ([] : List Addr) from z))
  refine ⟨⟨_, _, _, _, of2⟩, ?_⟩
  have rc2 : H2 c2 = some (CodeO c2 (lamNm X)) := kk c2 _ nc.1 rc
  obtain ⟨⟨oc, vs1, t1, hoc, hdc, hvc⟩, _, _⟩ := I2.hok c2 _ rc2
  have hl : vs.length = 1 := Paired.length pr
  have hul : us.length = 1 := rvs.length.symm.trans hl
  have e0 := I2.env0
  have lim : s2.heap.NoLimit := e0.mod.nolimit.keeps fun b o e => (e0.bs b o e).1
  have hkind : ∀ z ∈ [y].zip us, scope.names.lookup z.1 = some .local ∨ (scope.names.lookup z.1 = some .cell ∧ ((cellsFrom (s2.heap.objs.size + 1) scope.names []).lookup z.1).isSome = true) := fun ⟨n, v⟩ hy => by
    rcases L.par n (List.of_mem_zip hy).1 with q | q
    · exact .inl q
    · exact .inr ⟨q, PySem.W.cellsFrom_some _ _ _ (.inl q)⟩
  have inner : codeAny (model X.prog X.w) (X.A.deeper (envOfC qg sg s.heap.objs.size g cdg)) (.call (.ref f) ⟨us, []⟩) (CR (L2.CX X.prog X.w) (envOfC qg sg s.heap.objs.size g cdg :: X.stack) X.prog X.w H2 s2 Q F0) s2 := by
    unfold lamOb at of2
    rw [hcl] at of2
    refine PySem.W.kla_callFunE hr.depth of2 rfl L.co L.gen rfl ⟨c2, oc, vs1, t1, rfl, hoc, hdc, hvc⟩ ?_
    match us, hul with
    | [u0], _ =>
    rw [hbind]
    refine wpAny_pure (wpAny_newFunctionEnv_cells L.kind hkind fun env ee2 s3 x => ?_)
    subst ee2
    refine ⟨lim.keeps x.toInCall.keep, ?_⟩
    have G : Gd (pCx X (X.A.deeper (envOfC qg sg s.heap.objs.size g cdg)) (envOfC qg sg s.heap.objs.size g cdg :: X.stack) s2 H2 scope f c2 y) (Wo F0) k := ⟨hr.deeper _, hgd, rfl, L.nd, takes_of rfl rfl rfl rfl, passes_of rfl⟩
    have I3 : Inv (pCx X (X.A.deeper (envOfC qg sg s.heap.objs.size g cdg)) (envOfC qg sg s.heap.objs.size g cdg :: X.stack) s2 H2 scope f c2 y) [] (L2.start [y] vs) H2 s3 := inv_start L hr.hd e0 hl rvs x
    refine PySem.W.kla_codeExpr (wpAny_mono ((hbody _ _ s2 H2 G).run [] s3 _ H2 Q I3 ⟨fo, _, S1, _, (show EnvR X.K fo H2 (L2.start [y] vs) [some v0] from start_env (n := 0) pr (by rw [hl]; rfl)), sS, he, fun w H3 s3 k3 r3 => hQ w H3 s3 (kk.trans k3) r3⟩) (fun v s4 ⟨w2, H3, J2, rv, q⟩ => ⟨w2, H3, J2.os, J2.bare, J2.base, J2.hok, rv, q⟩) fun e s' hq => hq)
  refine wpAny_call (codeAny_mono inner fun r s' hq => ?_)
  cases r with
  | error e => exact tk e s' (XE.of_call I2 (fun _ _ _ z => z.elim) hq)
  | ok fl =>
    cases fl with
    | ret u => exact I2.after hq
    | next => exact hq.elim
    | brk => exact hq.elim
    | cont => exact hq.elim
end
def lamPB (y : Str) (sc : Scope) : Bool := decide (sc.kind = .function) && !sc.isCoroutine && !sc.isGenerator && (decide (sc.names.lookup y = some .local) || decide (sc.names.lookup y = some .cell)) && sc.names.all fun z => !decide (z.2 = .free)
theorem lamP_by {y : Str} {sc : Scope} (h : lamPB y sc = true) : FnScope [y] [y] sc := by
  unfold lamPB at h
  simp only [Bool.and_eq_true, Bool.or_eq_true, Bool.not_eq_true', decide_eq_true_eq, decide_eq_false_iff_not, List.all_eq_true] at h
  obtain ⟨⟨⟨⟨h1, h2⟩, h3⟩, h4⟩, h5⟩ := h
  exact ⟨h1, h2, h3, by simp, rfl, fun x hx => by
    cases (List.mem_singleton.mp hx)
    exact h4, h5⟩
/-- x(e, lambda v: ..) does what gth says of the lambda's meaning -/
structure FnP (P : Program) (w : World) (K : PySem.W.Frag) (mg : Str → Option Value) (base : Heap) (k : Nat) (x : Str) (gth : Ex → SV → Sto → Option FR) where
  g : Addr
  pg : Arguments
  bg : List Stmt
  sg : Scope
  dV : Value
  kV : Value
  doc : Value
  pm : Value
  an : Option Addr
  cdv : Value
  ct : Value
  oc : Value
  od : Option Addr
  osl : Array (Option Value)
  Ng : List Str
  a0 : Str
  a : Str
  mgx : mg x = some (.ref g)
  kp : PySem.W.keepIn K (.ref g) = true
  lk : K.lookup g = some ⟨oc, od, .func (PySem.W.fnOf x x pg bg sg dV kV doc pm an cdv ct), osl⟩
  cd : PySem.W.codeIn K cdv x = true
  hb : Binds K (PySem.W.fnOf x x pg bg sg dV kV doc pm an cdv ct) [a0, a] []
  sc : FnScope Ng [a0, a] sg
  h0 : Ng[1]? = some a
  hv : Vis sg a
  d1 : (a == ("__debug__" : Str)) = false
  d2 : (a == ("__classdict__" : Str)) = false
  run : ∀ (A : Around) (stack : List Env) (f c2 : Addr) (q : Str) (s : Shared) (H : Hp) (Q : VK) (ee : Ex) (fo : Ow) (S : Sto) (v0 : V) (sv0 : SV) (r : FR), Room k (A.deeper (envOfC x sg s.heap.objs.size g cdv)) → A.guards = some [] →
    (∀ (b : Expr) (es : List Expr) (fs : Exs) (p1 p2 : Pos), DA (hCx P w K mg base Ng x sg g cdv A stack s H).nox W0 (b :: es) fs → starEach (b :: es) (envOfC x sg s.heap.objs.size g cdv) = (false, eval b (envOfC x sg s.heap.objs.size g cdv)) :: starEach es (envOfC x sg s.heap.objs.size g cdv) → (backTo p2 (starEach es (envOfC x sg s.heap.objs.size g cdv))).any (·.1) = false →
      DE (hCx P w K mg base Ng x sg g cdv A stack s H).nox W0 (.Call (.Name a p1) (b :: es) [] p2) (ePr f c2 q 1 ee fs)) →
    H c2 = some (CodeO c2 q) → fo.nx c2 → StoR K fo S H → SvR K fo H v0 sv0 → gth ee sv0 S = some r →
    (match r with
      | .ok v S2 => ∀ u H2, StoR K fo S2 H2 → Kp fo H H2 → SvR K fo H2 u v → Q u H2
      | _ => False) →
    ∃ t, PSs (hCx P w K mg base Ng x sg g cdv A stack s H).nox bg t ∧ t { nx := fun _ H2 => Q .non H2, rt := Q } (L2.start Ng [v0, .ref f]) H
open Classical in
@[simp] noncomputable def eHandP (i : Nat) (q : Str) (P : Addr) (gth : Ex → SV → Sto → Option FR) (ee ea : Ex) (σ : Sg) (S : Sto) : Option (Res SV) := Res.bnd (ea σ S) fun v0 S0 => match S0[i]? with
  | some (.tab q2 P2) => if q2 = q ∧ P2 = P then match gth ee v0 S0 with
      | some (.ok v S2) => some (.ok v S2)
      | _ => none
    else none
  | _ => none
theorem de_handedP {X : Cx} {W : WX} {k i : Nat} {c P : Addr} {x z y : Str} {gth : Ex → SV → Sto → Option FR} {params : Arguments} {body : Expr} {scope : Scope} {ee ea : Ex} {p pz lpos pos : Pos} (G : Gd X W (k + 2)) (F : FnP X.prog X.w X.K X.mg X.base (k + 1) x gth) (TB : TabB X.base X.mg c P) (hcode : X.env.code = .ref c)
    (L : FnScope [y] [y] scope) (hcl : cloFrom X.env.cells scope.names [] = []) (hdef : defaultsOf params X.env = ([], [])) (hbind : ∀ (q : Str) (pm cv ctv u : Value), bindArgs (PySem.W.kla_fn "<lambda>" q params body scope [] pm cv ctv) ⟨[u], []⟩ = pure [(y, u)])
    (hz : DE X W (.Name z pz) ea)
    (hbody : ∀ (A : Around) (outer : List Env) (s : Shared) (H : Hp) (f c2 : Addr), Gd (pCx X A outer s H scope f c2 y) (Wo F0) k → DE (pCx X A outer s H scope f c2 y) (Wo F0) body ee)
    (hg : Gl X x := by rfl) (hdb : (x == ("__debug__" : Str)) = false := by decide) : DE X W (.Call (.Name x p) [.Name z pz, .Lambda params body scope lpos] [] pos) (eHandP i (lamNm X) P gth ee ea) := by
  refine ⟨fun pins s σV H Q I ⟨fo, σ, S, r, hE, hS, hr, hq⟩ => ?_⟩
  unfold eHandP at hr
  have hA : TX X W ea σV H (fun v H0 => ∃ (sv0 : SV) (S0 : Sto) (r0 : SV) (S2 : Sto), StoR X.K fo S0 H0 ∧ Kp fo H H0 ∧ SvR X.K fo H0 v sv0 ∧ S0[i]? = some (.tab (lamNm X) P) ∧ gth ee sv0 S0 = some (.ok r0 S2) ∧ (∀ w H3, StoR X.K fo S2 H3 → Kp fo H H3 → SvR X.K fo H3 w r0 → Q w H3)) := by
    refine TX.first hE hS hr (exc_way hq) fun sv0 S0 v H0 _ h1 s0 k0 _ r0 => ?_
    split at h1
    case h_2 => cases h1
    rename_i q2 P2 ht
    split at h1
    case isFalse => cases h1
    rename_i hh
    obtain ⟨rfl, rfl⟩ := hh
    split at h1
    case h_2 => cases h1
    rename_i v2 S2 eg
    cases h1
    exact ⟨sv0, S0, v2, S2, s0, k0, r0, ht, eg, hq⟩
  refine wpAny_Call_Name_kw (ld_glob I hg F.mgx ?_ hdb)
  refine PySem.W.callWith_K (h₀ := X.base) I.ok.mod.kin F.kp ?_ (by rfl) (by rfl)
  show wpAny _ _ (spliced ((false, eval (.Name z pz) X.env) :: (false, eval (.Lambda params body scope lpos) X.env) :: backTo pos (starEach [] X.env))) _ _ s
  refine Calls.spliced_cons (thn (hz.run pins s σV H _ I hA) fun u0 s0 ⟨v0, H0, I0, rv0, sv0, S0, r0, S2, s0', k0, rs0, ht, eg, hQ⟩ => ?_)
  refine Calls.spliced_cons (lam_made I0 TB hcode s0' ht hdef (fun yy hy e => (L.nofree yy hy e).elim) fun f c2 pm2 ctv H1 s1 I1 S1 k1 hf hfn hfr hco nc => ?_)
  refine Calls.spliced_nil ⟨I1.kIn, ?_⟩
  have rc : codeAny (model X.prog X.w) X.A (.call (.ref F.g) ⟨[u0, .ref f], []⟩) (CR C8.CX0 X.stack X.prog X.w H1 s1 Q C8.E0) s1 := by
    refine run_ofS (N := F.Ng) (ps := [F.a0, F.a]) (us := [u0, .ref f]) (vs := [v0, .ref f]) F.lk F.cd F.sc G.hr I1.env0 (F.hb s1 [u0, .ref f] I1.kIn rfl) (.cons rv0 (.cons rfl .nil)) rfl fun hr2 => ?_
    obtain ⟨t2, h1, h2⟩ := F.run X.A X.stack f c2 (lamNm X) s1 H1 Q ee fo S0 v0 sv0 (.ok r0 S2) hr2 G.gd
      (fun b es fs p1 p2 hab hst hpl => de_pred I1 L hcl hf hfn hfr (fun u => hbind _ _ _ _ u) L2.takes0 hr2 G.gd (fun A outer s H g => hbody A outer s H f c2 g) F.h0 F.hv F.d1 F.d2 hab hst hpl) hco nc S1 (rs0.kp k1) eg
      (fun u H2 s2 k2 r2 => hQ u H2 s2 (k0.trans (k1.trans k2)) r2)
    exact ⟨t2, h1.nox, h2⟩
  refine wpAny_call (codeAny_mono rc fun r s2 hq => ?_)
  cases r with
  | error e => exact (show False from hq).elim
  | ok fl =>
    cases fl with
    | ret u => exact I1.after hq
    | next => exact False.elim hq
    | brk => exact False.elim hq
    | cont => exact False.elim hq
abbrev MPr := Addr → Addr → Str → Ex → Sm
open Classical in
noncomputable def runP (n : Nat) (mm : MPr) (ee : Ex) (v0 : SV) (S : Sto) : Option FR :=
  if h : ∃ r, ∀ p c q, fnRun n (mm p c q ee) [v0, svP p c q] S = some r then some h.choose else none
theorem runP_eq {n : Nat} {mm : MPr} {ee : Ex} {v0 : SV} {S : Sto} {r : FR} (h : ∀ p c q, fnRun n (mm p c q ee) [v0, svP p c q] S = some r) : runP n mm ee v0 S = some r := by
  have e : ∃ r, ∀ p c q, fnRun n (mm p c q ee) [v0, svP p c q] S = some r := ⟨r, h⟩
  unfold runP
  rw [dif_pos e]
  have h2 := e.choose_spec (0 : Nat) (0 : Nat) Str.empty
  rw [h] at h2
  exact h2.symm
theorem runP_at {n : Nat} {mm : MPr} {ee : Ex} {v0 : SV} {S : Sto} {r : FR} (h : runP n mm ee v0 S = some r) (p c : Addr) (q : Str) : fnRun n (mm p c q ee) [v0, svP p c q] S = some r := by
  unfold runP at h
  split at h
  · rename_i e
    cases h
    exact e.choose_spec p c q
  · cases h
/-- the predicate called in the context Y -/
abbrev ActP (Y : Cx) (a : Str) (p c : Addr) (q : Str) (ee : Ex) : Prop := ∀ (b : Expr) (es : List Expr) (fs : Exs) (p1 p2 : Pos), DA Y W0 (b :: es) fs → starEach (b :: es) Y.env = (false, eval b Y.env) :: starEach es Y.env → (backTo p2 (starEach es Y.env)).any (·.1) = false → DE Y W0 (.Call (.Name a p1) (b :: es) [] p2) (ePr p c q 1 ee fs)
section
variable {P : Program} {w : World} {K : PySem.W.Frag} {mg : Str → Option Value} {base : Heap} {k n : Nat} {x a0 a : Str} {st : Stmt} {g : Addr} {fd : FuncData} {Ng : List Str} {mm : MPr}
theorem fnP_def (F : Fun K x x st g fd) (hm : mg x = some (.ref g)) (sc : FnScope Ng [a0, a] (defScope st)) (h0 : Ng[1]? = some a) (hn : Ng.length - 2 = n) (hv : Vis (defScope st) a)
    (bd : ∀ (kV doc pm : Value) (an : Option Addr) (cdv ct : Value), L2.Binds K (PySem.W.fnOf x x (defArgs st) (defBody st) (defScope st) .none kV doc pm an cdv ct) [a0, a] [])
    (hb : ∀ (cdv : Value) (A : Around) (stack : List Env) (s : Shared) (H : Hp) (p c : Addr) (q : Str) (ee : Ex), Gd (hCx P w K mg base Ng x (defScope st) g cdv A stack s H).nox W0 k →
      ActP (hCx P w K mg base Ng x (defScope st) g cdv A stack s H).nox a p c q ee → DB (hCx P w K mg base Ng x (defScope st) g cdv A stack s H).nox W0 (defBody st) (mm p c q ee))
    (d1 : (a == ("__debug__" : Str)) = false := by decide) (d2 : (a == ("__classdict__" : Str)) = false := by decide) : Nonempty (FnP P w K mg base k x (runP n mm)) := by
  obtain ⟨oc, od, kV, doc, pm, an, cdv, ct, osl, rfl, lk, hcd⟩ := F.ex
  refine ⟨{ g := g, pg := defArgs st, bg := defBody st, sg := defScope st, dV := .none, kV := kV, doc := doc, pm := pm, an := an, cdv := cdv, ct := ct, oc := oc, od := od, osl := osl, Ng := Ng, a0 := a0, a := a, mgx := hm, kp := F.kp, lk := lk, cd := hcd, hb := bd _ _ _ _ _ _, sc := sc, h0 := h0, hv := hv, d1 := d1, d2 := d2, run := ?_ }⟩
  intro A stack p c q s H Q ee fo S v0 sv0 r hr hgd act hco nc hS hv0 hg hq
  have G : Gd (hCx P w K mg base Ng x (defScope st) g cdv A stack s H).nox W0 k := ⟨hr, hgd, rfl, sc.nd, L2.takes0, PassesOwn.never⟩
  refine ⟨_, hb cdv A stack s H p c q ee G act, ?_⟩
  have e := runP_at hg p c q
  unfold fnRun at e
  cases hmm : mm p c q ee ([sv0, svP p c q].map some ++ List.replicate n none) S with
  | none => rw [hmm] at e; cases e
  | some fl =>
    rw [hmm] at e
    have hp : Paired (SvR K fo H) [v0, V.ref p] [sv0, svP p c q] := .cons hv0 (.cons ⟨rfl, hco, nc, thR0⟩ .nil)
    refine ⟨fo, _, S, fl, start_env hp hn, hS, hmm, body_end (X := (hCx P w K mg base Ng x (defScope st) g cdv A stack s H).nox) (E := C8.E0) (svs := [sv0, svP p c q]) (fun _ _ _ _ z => z) hS e ?_⟩
    cases r with
    | ok v S2 => exact hq
    | nw o S2 => exact hq.elim
    | exc y S2 => exact hq.elim
end
/-! ## {a: b} -/
section
variable {X : Cx} {W : WX} {j1 j2 : Nat} {p1 p2 pos : Pos}
theorem de_dict1 {a b : Int} : DE X W (.Dict [some (.Constant (.int a) j1 p1)] [.Constant (.int b) j2 p2] pos) (eLit (.dict [(.int a, .int b)])) := pe_imp (pe_disp (pps_cons pe_int pe_int pps_nil) rfl rfl (by simp) (by simp)) fun σV H Q ⟨f, σ, S, r, hE, hS, he, hq⟩ => by
  cases he
  intro p np
  refine ⟨upd_same, [(.inl a, .int b)], rfl, by simp, ?_⟩
  rw [upd_upd]
  exact hq _ _ (hS.laid np) (Kp.new np) (Is.dic (.inl upd_same) (hS.free np) (.cons (.int b) .nil))
end
end Z
set_option maxRecDepth 100000
set_option maxHeartbeats 2000000
namespace Z
open PySem PySem.Spec PyProof.Rows L2 LamX

/-! ## a lambda of one parameter that captures flat data -/
/-- one parameter y, no other name of its own: captured ones and globals -/
structure LamC (sc scope : Scope) (y : Str) : Prop where
  kind : scope.kind = .function
  co : scope.isCoroutine = false
  gen : scope.isGenerator = false
  par : scope.names.lookup y = some .local
  own : ∀ z ∈ scope.names, z.2 ≠ .cell ∧ (z.2 = .local → z.1 = y)
  free : ∀ z ∈ scope.names, z.2 = .free → sc.names.lookup z.1 = some .cell ∨ sc.names.lookup z.1 = some .free
def lamCB (sc scope : Scope) (y : Str) : Bool :=
  decide (scope.kind = .function) && !scope.isCoroutine && !scope.isGenerator && decide (scope.names.lookup y = some .local) && scope.names.all fun z => !decide (z.2 = .cell) && (!decide (z.2 = .local) || decide (z.1 = y)) && (!decide (z.2 = .free) || decide (sc.names.lookup z.1 = some .cell) || decide (sc.names.lookup z.1 = some .free))
theorem lamC_by {sc scope : Scope} {y : Str} (h : lamCB sc scope y = true) : LamC sc scope y := by
  unfold lamCB at h
  simp only [Bool.and_eq_true, Bool.or_eq_true, Bool.not_eq_true', decide_eq_true_eq, decide_eq_false_iff_not, List.all_eq_true] at h
  obtain ⟨⟨⟨⟨h1, h2⟩, h3⟩, h4⟩, h5⟩ := h
  refine ⟨h1, h2, h3, h4, fun z hz => ⟨(h5 z hz).1.1, fun e => (h5 z hz).1.2.resolve_left fun q => q e⟩, fun z hz e => ?_⟩
  rcases (h5 z hz).2 with (q | q) | q
  · exact absurd e q
  · exact .inl q
  · exact .inr q
theorem LamC.has {X : Cx} {scope : Scope} {y : Str} (L : LamC X.env.scope scope y) (ok : X.Ok) : ∀ z ∈ scope.names, z.2 = .free → ∃ c, X.env.cells.lookup z.1 = some c := fun y hy e => by
  rcases L.free y hy e with k | k
  · exact ok.has _ (.inl k)
  · exact ok.has _ (.inr k)
/-- the context of its body -/
def lamPCx (X : Cx) (A : Around) (outer : List Env) (s : Shared) (H : Hp) (E : XK) (scope : Scope) (f c' : Addr) (y : Str) : Cx := { lamCx X A outer s H E scope f c' with N := X.N ++ [y] }
section
variable {X : Cx} {pins : List (Addr × Obj)} {σ : L2.St} {H HZ : Hp} {s s1 : Shared}
theorem lamP_start {A : Around} {outer : List Env} {E : XK} {scope : Scope} {f c' : Addr} {y : Str} {h₁ : Heap} {tk : Nat} {u : Value} {v : V} (I : Inv X pins σ H s) (L : LamC X.env.scope scope y) (e0 : Env0 X.prog X.w X.K X.mg X.base A outer s1 HZ) (hd : A.handled = none) (ru : RelV v u) (hyN : y ∉ X.N)
    (un : Un (frs X.stack) [] H HZ s.heap s1.heap) (hns : h₁.Ns s1.heap.objs.size fun z => ([(y, u)] : List (Str × Value)).reverse.lookup z) (kp : ∀ b o, s1.heap.get? b = some o → h₁.get? b = some o) :
    Inv (lamPCx X A outer s1 HZ E scope f c' y) [] (σ ++ [some v]) HZ { s1 with heap := h₁, toks := tk } := by
  have hfree := L.has I.ok
  have cm : ∀ {y c}, (cloFrom X.env.cells scope.names []).lookup y = some c → X.env.cells.lookup y = some c := fun {y c} e => by
    rcases cloFrom_mem (PySem.mem_of_lookup e) with hm | ⟨h1, h2⟩
    · cases hm
    · obtain ⟨c1, hc⟩ := hfree _ h1 rfl
      have hc : X.env.cells.lookup y = some c1 := hc
      have e2 : c = c1 := by
        rw [h2, hc] <;> rfl
      rw [e2]
      exact hc
  have look : ∀ {y}, scope.names.lookup y = some .free → ∃ c, (cloFrom X.env.cells scope.names []).lookup y = some c := fun {y} hl => by
    have hy : (y, NameKind.free) ∈ scope.names := PySem.mem_of_lookup hl
    exact mem_lookup (cloFrom_has (cells := X.env.cells) (acc := []) hy)
  have cellK : ∀ {c : Addr} {v : Option Value}, H c = none → s.heap.IsCell c v → h₁.IsCell c v := fun {c v} n ⟨o, ho, hd⟩ => by
    obtain ⟨sl, q⟩ := un.any ho n (by simp)
    exact ⟨_, kp _ _ q, hd⟩
  have noA : ∀ b : Addr, b ∉ (lamPCx X A outer s1 HZ E scope f c' y).ex := fun b z => absurd (show b ∈ ([] : List Addr) from z) (by simp)
  refine ⟨⟨e0.mod, L.kind, rfl, rfl, Nat.le_refl _, fun y z c e1 e2 => I.ok.inj y z c (cm e1) (cm e2), fun y hy => ?_, fun y c z _ => ?_, fun _ => hd, Around.frames_deeper e0.frames, .inr ⟨rfl, rfl⟩, fun b z => absurd z (noA b), e0.bs, e0.bsz, fun b _ _ => noA b,
      fun b z => absurd z (noA b), e0.funs, e0.frf⟩,
    rfl, e0.bare, Un.kept kp, ⟨_, hns, fun i z w e1 e2 e3 => ?_⟩, fun y c e => ?_, e0.hok.fresh (Nat.le_refl _), fun y c e => ?_, fun q hq => absurd (show q ∈ ([] : List (Addr × Obj)) ++ [] from hq) (by simp), e0.hok.kept kp, by show (σ ++ [some v]).length = (X.N ++ [y]).length; simp [I.len]⟩
  · have hy : scope.names.lookup y = some .cell ∨ scope.names.lookup y = some .free := hy
    rcases hy with hy | hy
    · exact absurd rfl (L.own _ (PySem.mem_of_lookup hy)).1
    · exact look hy
  · have z : false = true := z
    cases z
  · have e3 : Vis scope z := e3
    have e1 : (X.N ++ [y])[i]? = some z := e1
    have hlen := I.len
    rcases e3 with k | k | k
    · have hz : z = y := (L.own _ (PySem.mem_of_lookup k)).2 rfl
      subst hz
      by_cases hi : i < X.N.length
      · rw [List.getElem?_append_left hi] at e1
        exact absurd (List.mem_of_getElem? e1) hyN
      · rw [List.getElem?_append_right (by omega)] at e2
        have : i - σ.length = 0 := by
          have h2 := (List.getElem?_eq_some_iff.mp e1).1
          simp at h2
          omega
        rw [this] at e2
        cases e2
        exact ⟨u, ru, .inl ⟨k, by simp [List.lookup]⟩⟩
    · exact absurd rfl (L.own _ (PySem.mem_of_lookup k)).1
    · have hzy : z ≠ y := fun e => by
        rw [e, L.par] at k
        cases k
      have hi : i < X.N.length := by
        have h2 := (List.getElem?_eq_some_iff.mp e1).1
        simp at h2
        by_cases hi : i = X.N.length
        · subst hi
          rw [List.getElem?_append_right (Nat.le_refl _)] at e1
          simp at e1
          exact absurd e1.symm hzy
        · omega
      rw [List.getElem?_append_left hi] at e1
      rw [List.getElem?_append_left (by omega)] at e2
      obtain ⟨m, hn, hl⟩ := I.loc
      have hvis : Vis X.env.scope z := (L.free _ (PySem.mem_of_lookup k) rfl).elim (fun k => .inr (.inl k)) (fun k => .inr (.inr k))
      obtain ⟨w', r, q⟩ := hl i z w e1 e2 hvis
      obtain ⟨c2, h2⟩ := look k
      refine ⟨w', r, .inr ⟨.inr k, c2, h2, ?_⟩⟩
      have c1 := cm h2
      rcases q with ⟨k', _⟩ | ⟨_, c3, e', z2⟩
      · have k' : X.env.scope.names.lookup z = some .local := k'
        rcases L.free _ (PySem.mem_of_lookup k) rfl with k2 | k2 <;> rw [show X.env.scope.names.lookup z = _ from k2] at k' <;> cases k'
      · rw [c1] at e'
        cases e'
        exact cellK (I.freeC z _ c1) z2
  · obtain ⟨w', z⟩ := I.cell y c (cm e)
    exact ⟨w', cellK (I.freeC y c (cm e)) z⟩
  · obtain ⟨v, o, ho, hd⟩ := I.cell y c (cm e)
    exact un.free c o ho (I.freeC y c (cm e)) (by simp)
end
/-- what a lambda may keep of its maker's names -/
def flat1 : Option SV → Option SV
  | some (.d d) => if flatD d then some (.d d) else none
  | _ => none
def flatS (σ : Sg) : Sg := σ.map flat1
theorem flat_any {K : PySem.W.Frag} {f f' : Ow} {H H' : Hp} {v : V} {d : PyData} (h : Is K f H v d) (e : flatD d = true) : Is K f' H' v d := by
  cases h with
  | non => exact .non
  | bl b => exact .bl b
  | int i => exact .int i
  | str x => exact .str x
  | lst _ _ => simp [flatD] at e
  | tup _ _ => simp [flatD] at e
  | dic _ _ _ => simp [flatD] at e
theorem EnvR.flat {K : PySem.W.Frag} {f f' : Ow} {H H' : Hp} {σV : L2.St} {σ : Sg} (h : EnvR K f H σV σ) : EnvR K f' H' σV (flatS σ) :=
  ⟨by rw [flatS, List.length_map]; exact h.len, fun i x e => by
    unfold flatS at e
    rw [List.getElem?_map] at e
    cases e0 : σ[i]? with
    | none => rw [e0] at e; cases e
    | some o =>
      rw [e0] at e
      cases o with
      | none => cases e
      | some sv =>
        cases sv with
        | d d =>
          have e : some (if flatD d = true then some (SV.d d) else none) = some (some x) := e
          by_cases hf : flatD d = true
          · rw [if_pos hf] at e
            cases e
            obtain ⟨v, h1, h2⟩ := h.get i _ e0
            exact ⟨v, h1, flat_any h2 hf⟩
          · rw [if_neg hf] at e
            cases e
        | r j => cases e
        | s ns => cases e
        | k a x c d => cases e
        | t a b c d e' => cases e⟩
theorem EnvR.snoc {K : PySem.W.Frag} {f : Ow} {H : Hp} {σV : L2.St} {σ : Sg} {v : V} {sv : SV} (h : EnvR K f H σV σ) (r : SvR K f H v sv) : EnvR K f H (σV ++ [some v]) (σ ++ [some sv]) :=
  ⟨by have := h.len; simp [this], fun i x e => by
    have hl := h.len
    by_cases hi : i < σ.length
    · rw [List.getElem?_append_left hi] at e
      obtain ⟨w, h1, h2⟩ := h.get i x e
      exact ⟨w, by rw [List.getElem?_append_left (by omega)]; exact h1, h2⟩
    · rw [List.getElem?_append_right (by omega)] at e
      have : i - σ.length = 0 := by
        have h2 := (List.getElem?_eq_some_iff.mp e).1
        simp at h2
        omega
      rw [this] at e
      cases e
      exact ⟨v, by rw [List.getElem?_append_right (by omega), show i - σV.length = 0 by omega]; rfl, r⟩⟩
/-- the lambda's meaning where its maker's names stand as in σ -/
def inEnv (σ : Sg) (ee : Ex) : Ex := fun τ S => ee (flatS σ ++ τ) S
section
variable {X : Cx} {pins : List (Addr × Obj)} {σ : L2.St} {H : Hp} {s : Shared}
theorem de_predC {CXg : CXT} {Eg : XK} {Ng : List Str} {qg : Str} {sg : Scope} {g f c2 : Addr} {cdg pm ctv : Value} {params : Arguments} {body : Expr} {scope : Scope} {k i : Nat} {nm y : Str} {W : WX} {ee : Ex} {b : Expr} {es : List Expr} {fs : Exs} {p1 p2 : Pos} {σS : Sg} {fo0 : Ow} {H0 : Hp}
    (I : Inv X pins σ H s) (hE0 : EnvR X.K fo0 H0 σ σS) (L : LamC X.env.scope scope y) (hyN : y ∉ X.N) (hf : s.heap.get? f = some (lamOb X params body scope pm c2 ctv)) (hfn : H f = none) (hfr : f ∉ frs X.stack)
    (hbind : ∀ u, bindArgs (PySem.W.kla_fn "<lambda>" (lamNm X) params body scope (cloFrom X.env.cells scope.names []) pm (.ref c2) ctv) ⟨[u], []⟩ = pure [(y, u)])
    (tk : Takes (cxOf CXg X.prog X.w X.K X.mg X.base Ng qg sg g cdg X.A X.stack s H Eg).nox W) (hr : Room (k + 1) (X.A.deeper (envOfC qg sg s.heap.objs.size g cdg))) (hgd : X.A.guards = some []) (hnd : X.N.Nodup)
    (hbody : ∀ (A : Around) (outer : List Env) (s : Shared) (H : Hp), Gd (lamPCx X A outer s H F0 scope f c2 y) (WE F0) k → DE (lamPCx X A outer s H F0 scope f c2 y) (WE F0) body ee)
    (hN : Ng[i]? = some nm) (hv : Vis sg nm) (hd : (nm == ("__debug__" : Str)) = false) (hcd : (nm == ("__classdict__" : Str)) = false)
    (ha : DA (cxOf CXg X.prog X.w X.K X.mg X.base Ng qg sg g cdg X.A X.stack s H Eg).nox W (b :: es) fs)
    (hst : starEach (b :: es) (envOfC qg sg s.heap.objs.size g cdg) = (false, eval b (envOfC qg sg s.heap.objs.size g cdg)) :: starEach es (envOfC qg sg s.heap.objs.size g cdg)) (hpl : (backTo p2 (starEach es (envOfC qg sg s.heap.objs.size g cdg))).any (·.1) = false) :
    DE (cxOf CXg X.prog X.w X.K X.mg X.base Ng qg sg g cdg X.A X.stack s H Eg).nox W (.Call (.Name nm p1) (b :: es) [] p2) (ePr f c2 (lamNm X) i (inEnv σS ee) fs) := by
  refine ⟨fun pinsZ sZ σZ HZ Q IZ ⟨fo, τ, S, r, hE, hS, hr2, hq⟩ => ?_⟩
  unfold ePr at hr2
  split at hr2
  case isFalse => cases hr2
  rename_i h0
  obtain ⟨v, ev, rv, rc, nc, rt⟩ := hE.get i _ h0
  subst rv
  have first := (pe_var (pos := p1) (i := i) hN hv hd hcd).run pinsZ sZ σZ HZ (fun v H1 => v = .ref f ∧ H1 = HZ) IZ ⟨.ref f, ev, rfl, rfl⟩
  refine wpAny_Call_Name_kw (thn first fun u s1 ⟨v, H1, I1, r1, ev, eH⟩ => ?_)
  subst ev eH
  obtain rfl : u = Value.ref f := r1
  have of1 : s1.heap.get? f = some (lamOb X params body scope pm c2 ctv) := I1.base.keep f _ hf hfn hfr (fun z => nomatch (show f ∈ ([] : List Addr) from z))
  have hA : TXs (cxOf CXg X.prog X.w X.K X.mg X.base Ng qg sg g cdg X.A X.stack s H Eg).nox W fs σZ H1 (fun vs H2 => ∃ (S1 : Sto) (v0 : SV) (S2 : Sto) (u : PyData), StoR X.K fo S1 H2 ∧ Kp fo H1 H2 ∧ Paired (SvR X.K fo H2) vs [v0] ∧ ee (flatS σS ++ [some v0]) S1 = some (.ok (.d u) S2) ∧ (∀ w H3, StoR X.K fo S2 H3 → Kp fo H1 H3 → SvR X.K fo H3 w (.d u) → Q w H3)) := by
    refine TXs.first hE hS hr2 (exc_way hq) fun xs S1 vs H2 _ h1 sS kk _ pr => ?_
    split at h1
    case h_2 => cases h1
    rename_i v0 _
    unfold pOf at h1
    split at h1
    case h_2 => cases h1
    rename_i u S2 he
    cases h1
    exact ⟨S1, v0, S2, u, sS, kk, pr, he, hq⟩
  refine PySem.W.callWith_F (env := envOfC qg sg s.heap.objs.size g cdg) ⟨_, _, _, _, of1⟩ (thn (ha.run p2 pinsZ s1 σZ H1 _ I1 hA) fun us s2 ⟨vs, H2, I2, rvs, S1, v0, S2, u, sS, kk, pr, he, hQ⟩ => ?_) hst hpl
  have of2 : s2.heap.get? f = some (lamOb X params body scope pm c2 ctv) := I2.base.keep f _ hf hfn hfr (fun z => nomatch (show f ∈ ([] : List Addr) from z))
  refine ⟨⟨_, _, _, _, of2⟩, ?_⟩
  have un : Un (frs X.stack) [] H H2 s.heap s2.heap := I2.base
  have rc2 : H2 c2 = some (CodeO c2 (lamNm X)) := kk c2 _ nc.1 rc
  obtain ⟨⟨oc, vs1, t1, hoc, hdc, hvc⟩, _, _⟩ := I2.hok c2 _ rc2
  have hl : vs.length = 1 := Paired.length pr
  have hul : us.length = 1 := rvs.length.symm.trans hl
  have inner : codeAny (model X.prog X.w) (X.A.deeper (envOfC qg sg s.heap.objs.size g cdg)) (.call (.ref f) ⟨us, []⟩) (CR (L2.CX X.prog X.w) (envOfC qg sg s.heap.objs.size g cdg :: X.stack) X.prog X.w H2 s2 Q F0) s2 := by
    refine PySem.W.kla_callFunE hr.depth of2 rfl L.co L.gen rfl ⟨c2, oc, vs1, t1, rfl, hoc, hdc, hvc⟩ ?_
    obtain ⟨vA, rfl⟩ := List.length_eq_one_iff.mp hl
    obtain ⟨u0, rfl⟩ := List.length_eq_one_iff.mp hul
    rw [hbind]
    have ru : RelV vA u0 := by cases rvs; assumption
    have rp : SvR X.K fo H2 vA v0 := by cases pr; assumption
    refine wpAny_pure (wpAny_newFunctionEnv (fun z hz => (L.own z hz).1) (fun z hz => by cases List.mem_singleton.mp hz; exact L.par) (fun h1 hns hsb => ⟨I2.nolimit.fresh _ hsb, ?_⟩) L.kind)
    show codeAny _ _ (.expr body (lamEnv X scope s2.heap.objs.size f c2)) _ _
    have kp : ∀ b o, s2.heap.get? b = some o → h1.get? b = some o := fun b o e => hsb.extBut b o (Nat.ne_of_lt (Heap.lt_size e)) (Heap.get?_push_of_some _ e)
    have J := lamP_start (E := F0) (f := f) (c' := c2) (tk := s2.toks + ([(y, u0)] : List (Str × Value)).length) I L I2.env0 hr.hd ru hyN un hns kp
    have G : Gd (lamPCx X (X.A.deeper (envOfC qg sg s.heap.objs.size g cdg)) (envOfC qg sg s.heap.objs.size g cdg :: X.stack) s2 H2 F0 scope f c2 y) (WE F0) k := ⟨hr.deeper _, hgd, rfl, List.nodup_append.mpr ⟨hnd, by simp, fun a ha b hb e => by cases List.mem_singleton.mp hb; exact hyN (e ▸ ha)⟩, takes_of rfl rfl rfl rfl, passes_of rfl⟩
    have hEnv : EnvR X.K fo H2 (σ ++ [some vA]) (flatS σS ++ [some v0]) := EnvR.snoc hE0.flat rp
    refine PySem.W.kla_codeExpr (wpAny_mono ((hbody _ _ s2 H2 G).run [] _ _ H2 Q J ⟨fo, _, S1, _, hEnv, sS, he, fun w H3 s3 k3 r3 => hQ w H3 s3 (kk.trans k3) r3⟩) (fun v s4 ⟨w2, H3, J2, rv, q⟩ => ⟨w2, H3, J2.os, J2.bare, J2.base, J2.hok, rv, q⟩) fun e s' hq => hq)
  refine wpAny_call (codeAny_mono inner fun r s' hq => ?_)
  cases r with
  | error e => exact tk e s' (XE.of_call I2 (fun _ _ _ z => z.elim) hq)
  | ok fl =>
    cases fl with
    | ret u => exact I2.after hq
    | next => exact hq.elim
    | brk => exact hq.elim
    | cont => exact hq.elim
end
open Classical in
@[simp] noncomputable def eHandC (i : Nat) (q : Str) (P : Addr) (gth : Ex → SV → Sto → Option FR) (ee ea : Ex) (σ : Sg) (S : Sto) : Option (Res SV) := Res.bnd (ea σ S) fun v0 S0 => match S0[i]? with
  | some (.tab q2 P2) => if q2 = q ∧ P2 = P then match gth (inEnv σ ee) v0 S0 with
      | some (.ok v S2) => some (.ok v S2)
      | _ => none
    else none
  | _ => none
theorem de_handedC {X : Cx} {W : WX} {k i : Nat} {c P : Addr} {x z y : Str} {gth : Ex → SV → Sto → Option FR} {params : Arguments} {body : Expr} {scope : Scope} {ee ea : Ex} {p pz lpos pos : Pos} (G : Gd X W (k + 2)) (F : FnP X.prog X.w X.K X.mg X.base (k + 1) x gth) (TB : TabB X.base X.mg c P) (hcode : X.env.code = .ref c)
    (L : LamC X.env.scope scope y) (hyN : y ∉ X.N) (hdef : defaultsOf params X.env = ([], [])) (hbind : ∀ (q : Str) (cl : List (Str × Addr)) (pm cv ctv u : Value), bindArgs (PySem.W.kla_fn "<lambda>" q params body scope cl pm cv ctv) ⟨[u], []⟩ = pure [(y, u)])
    (hz : DE X W (.Name z pz) ea)
    (hbody : ∀ (A : Around) (outer : List Env) (s : Shared) (H : Hp) (f c2 : Addr), Gd (lamPCx X A outer s H F0 scope f c2 y) (WE F0) k → DE (lamPCx X A outer s H F0 scope f c2 y) (WE F0) body ee)
    (hg : Gl X x := by rfl) (hdb : (x == ("__debug__" : Str)) = false := by decide) : DE X W (.Call (.Name x p) [.Name z pz, .Lambda params body scope lpos] [] pos) (eHandC i (lamNm X) P gth ee ea) := by
  refine ⟨fun pins s σV H Q I ⟨fo, σ, S, r, hE, hS, hr, hq⟩ => ?_⟩
  unfold eHandC at hr
  have hA : TX X W ea σV H (fun v H0 => ∃ (sv0 : SV) (S0 : Sto) (r0 : SV) (S2 : Sto), StoR X.K fo S0 H0 ∧ Kp fo H H0 ∧ SvR X.K fo H0 v sv0 ∧ S0[i]? = some (.tab (lamNm X) P) ∧ gth (inEnv σ ee) sv0 S0 = some (.ok r0 S2) ∧ (∀ w H3, StoR X.K fo S2 H3 → Kp fo H H3 → SvR X.K fo H3 w r0 → Q w H3)) := by
    refine TX.first hE hS hr (exc_way hq) fun sv0 S0 v H0 _ h1 s0 k0 _ r0 => ?_
    split at h1
    case h_2 => cases h1
    rename_i q2 P2 ht
    split at h1
    case isFalse => cases h1
    rename_i hh
    obtain ⟨rfl, rfl⟩ := hh
    split at h1
    case h_2 => cases h1
    rename_i v2 S2 eg
    cases h1
    exact ⟨sv0, S0, v2, S2, s0, k0, r0, ht, eg, hq⟩
  refine wpAny_Call_Name_kw (ld_glob I hg F.mgx ?_ hdb)
  refine PySem.W.callWith_K (h₀ := X.base) I.ok.mod.kin F.kp ?_ (by rfl) (by rfl)
  show wpAny _ _ (spliced ((false, eval (.Name z pz) X.env) :: (false, eval (.Lambda params body scope lpos) X.env) :: backTo pos (starEach [] X.env))) _ _ s
  refine Calls.spliced_cons (thn (hz.run pins s σV H _ I hA) fun u0 s0 ⟨v0, H0, I0, rv0, sv0, S0, r0, S2, s0', k0, rs0, ht, eg, hQ⟩ => ?_)
  refine Calls.spliced_cons (lam_made I0 TB hcode s0' ht hdef (L.has I0.ok) fun f c2 pm2 ctv H1 s1 I1 S1 k1 hf hfn hfr hco nc => ?_)
  refine Calls.spliced_nil ⟨I1.kIn, ?_⟩
  have rc : codeAny (model X.prog X.w) X.A (.call (.ref F.g) ⟨[u0, .ref f], []⟩) (CR C8.CX0 X.stack X.prog X.w H1 s1 Q C8.E0) s1 := by
    refine run_ofS (N := F.Ng) (ps := [F.a0, F.a]) (us := [u0, .ref f]) (vs := [v0, .ref f]) F.lk F.cd F.sc G.hr I1.env0 (F.hb s1 [u0, .ref f] I1.kIn rfl) (.cons rv0 (.cons rfl .nil)) rfl fun hr2 => ?_
    obtain ⟨t2, h1, h2⟩ := F.run X.A X.stack f c2 (lamNm X) s1 H1 Q (inEnv σ ee) fo S0 v0 sv0 (.ok r0 S2) hr2 G.gd
      (fun b es fs p1 p2 hab hst hpl => de_predC I1 hE L hyN hf hfn hfr (fun u => hbind _ _ _ _ _ u) L2.takes0 hr2 G.gd G.nd (fun A outer s H g => hbody A outer s H f c2 g) F.h0 F.hv F.d1 F.d2 hab hst hpl) hco nc S1 (rs0.kp k1) eg
      (fun u H2 s2 k2 r2 => hQ u H2 s2 (k0.trans (k1.trans k2)) r2)
    exact ⟨t2, h1.nox, h2⟩
  refine wpAny_call (codeAny_mono rc fun r s2 hq => ?_)
  cases r with
  | error e => exact (show False from hq).elim
  | ok fl =>
    cases fl with
    | ret u => exact I1.after hq
    | next => exact False.elim hq
    | brk => exact False.elim hq
    | cont => exact False.elim hq
/-! ## x.bit_length() -/
section
variable {X : Cx} {W : WX} {e : Expr} {ee : Ex} {pos p0 : Pos}
@[simp] def pBits (x : SV) (_ : Sto) : Option SV := match x with
  | .d (.int i) => some (.d (.int (Builtin.Int.intBits i : Nat)))
  | _ => none
theorem de_bits (he : DE X W e ee) (hbase : attributeBase e "bit_length" X.env (eval e X.env) = eval e X.env := by rfl) (hline : (p0.endLine == pos.line) = true := by rfl) : DE X W (.Call (.Attribute e "bit_length" p0) [] [] pos) (eUn pBits ee) :=
  pe_imp (pe_bits he hbase hline) fun σV H Q ⟨f, σ, S, r, hE, hS, hr, hq⟩ => by
    refine TX.first hE hS hr (exc_way hq) fun x S1 vx H1 _ h1 s1 k1 e1 r1 => ?_
    cases hp : pBits x S1 with
    | none => rw [hp] at h1; cases h1
    | some z =>
      rw [hp] at h1
      cases h1
      unfold pBits at hp
      split at hp
      · cases hp
        cases r1
        exact ⟨_, rfl, hq _ H1 s1 k1 (Is.int _)⟩
      · cases hp
theorem all_rg {K : PySem.W.Frag} {f : Ow} {H : Hp} : ∀ (l : List Nat) (a : Int), IsAll K f H (l.map fun (i : Nat) => V.int (a + (i : Int))) (l.map fun (i : Nat) => PyData.int (a + (i : Int)))
  | [], _ => .nil
  | _ :: l, a => .cons (.int _) (all_rg l a)
/-- list(range(n)) -/
@[simp] def pLRg (x : SV) (_ : Sto) : Option SV := match x with
  | .d (.int n) => if 0 ≤ n ∧ n.toNat ≤ sizeLine then some (.d (.list (upTo 0 n.toNat))) else none
  | _ => none
theorem de_listRg {q0 q1 : Pos} (hc : X.calm = true) (hm : X.mg "list" = none) (hm2 : X.mg "range" = none) (he : DE X W e ee) (hg : Gl X "list" := by rfl) (hg2 : Gl X "range" := by rfl) (na : starEach [e] X.env = (false, eval e X.env) :: starEach [] X.env := by rfl)
    (na2 : starEach [.Call (.Name "range" q0) [e] [] q1] X.env = (false, eval (.Call (.Name "range" q0) [e] [] q1) X.env) :: starEach [] X.env := by rfl) : DE X W (.Call (.Name "list" p0) [.Call (.Name "range" q0) [e] [] q1] [] pos) (eUn pLRg ee) :=
  pe_imp (pe_listRg hc hg hm (prg_1 hg2 hm2 he na) na2) fun σV H Q ⟨f, σ, S, r, hE, hS, hr, hq⟩ => by
    refine TX.first hE hS hr (exc_way hq) fun x S1 vx H1 _ h1 s1 k1 e1 r1 => ?_
    cases hp : pLRg x S1 with
    | none => rw [hp] at h1; cases h1
    | some z =>
      rw [hp] at h1
      cases h1
      unfold pLRg at hp
      split at hp
      · split at hp
        · rename_i n _ hn
          cases hp
          cases r1
          rw [sizeLine_eq] at hn
          have hn2 : n ≤ 16777216 := by omega
          refine ⟨n, rfl, RgOk.of_le (by omega) hn2 (by omega) hn.1, fun q nq => hq _ _ (s1.laid nq) (k1.trans (Kp.new nq)) (Is.lst ⟨upd_same, s1.free nq⟩ ?_)⟩
          · unfold rgV upTo
            rw [Int.sub_zero]
            exact all_rg (List.range n.toNat) 0
        · cases hp
      · cases hp
end
end Z
set_option maxRecDepth 100000
set_option maxHeartbeats 2000000
namespace Z
open PySem PySem.Spec PyProof.Rows L2

/-! ## f-strings of texts and ints -/
@[simp] def pFmt (x : SV) (_ : Sto) : Option SV := match x with
  | .d (.str y) => if y.length ≤ sizeLine then some (.d (.str y)) else none
  | .d (.int i) => if i.natAbs.log2 < 1920 then some (.d (.str (Str.ofString (toString i)))) else none
  | _ => none
def jGo : List Ex → Str → Sg → Sto → Option (Res SV)
  | [], acc, _, S => some (.ok (.d (.str acc)) S)
  | e :: es, acc, σ, S => Res.bnd (e σ S) fun v S1 => match v with
    | .d (.str y) => if (acc ++ y).length ≤ sizeLine then jGo es (acc ++ y) σ S1 else none
    | _ => none
@[simp] def eJoin (es : List Ex) (σ : Sg) (S : Sto) : Option (Res SV) := jGo es Str.empty σ S
section
variable {X : Cx} {W : WX} {e v1 v2 : Expr} {rest : List Expr} {ee : Ex} {pos : Pos}
theorem de_fmt (he : DE X W e ee) : DE X W (.FormattedValue e (-1) none pos) (eUn pFmt ee) :=
  pe_imp (pe_fmt he) fun σV H Q ⟨f, σ, S, r, hE, hS, hr, hq⟩ => by
    refine TX.first hE hS hr (exc_way hq) fun x S1 vx H1 _ h1 s1 k1 e1 r1 => ?_
    cases hp : pFmt x S1 with
    | none => rw [hp] at h1; cases h1
    | some z =>
      rw [hp] at h1
      cases h1
      unfold pFmt at hp
      split at hp
      · split at hp
        · rename_i y _ hz
          cases hp
          cases r1
          exact .inl ⟨_, rfl, hz, hq _ H1 s1 k1 (Is.str _)⟩
        · cases hp
      · split at hp
        · rename_i i _ hz
          cases hp
          cases r1
          exact .inr ⟨_, rfl, hz, hq _ H1 s1 k1 (Is.str _)⟩
        · cases hp
      · cases hp
inductive DJ (X : Cx) (W : WX) : List Expr → List Ex → Prop where
  | nil : DJ X W [] []
  | cons {e : Expr} {m : Ex} {es : List Expr} {ms : List Ex} (h : DE X W e m) (r : DJ X W es ms) : DJ X W (e :: es) (m :: ms)
theorem DJ.pj {es : List Expr} {ms : List Ex} (h : DJ X W es ms) : PJ X es (ms.map (TX X W)) := by
  induction h with
  | nil => exact .nil
  | cons h _ ih => exact .cons h ih
theorem js_go {f : Ow} {σ : Sg} {σV : L2.St} {Q : VK} : ∀ {ms : List Ex} {acc : Str} {S : Sto} {H : Hp} {r : Res SV}, EnvR X.K f H σV σ → StoR X.K f S H → jGo ms acc σ S = some r →
    (match r with
      | .ok sv S' => ∀ (v : V) (H' : Hp), StoR X.K f S' H' → Kp f H H' → SvR X.K f H' v sv → Q v H'
      | .exc x S' => XS X W f σV H x S') → tJs (ms.map (TX X W)) acc σV H fun out H1 => Q (.str out) H1
  | [], acc, S, H, r, hE, hS, hr, hq => by
    cases hr
    exact hq _ H hS (Kp.refl _ _) (Is.str _)
  | e :: ms, acc, S, H, r, hE, hS, hr, hq => by
    unfold jGo at hr
    refine TX.first hE hS hr (exc_way hq) fun v S1 vx H1 _ h1 s1 k1 e1 r1 => ?_
    split at h1
    case h_2 => cases h1
    rename_i y _
    split at h1
    case isFalse => cases h1
    rename_i hz
    cases r1
    refine ⟨y, rfl, hz, js_go e1 s1 h1 ?_⟩
    cases r with
    | ok sv S' => exact fun v H' s2 k2 r2 => hq v H' s2 (k1.trans k2) r2
    | exc x S' => exact XS.kp hq k1
theorem de_join {ms : List Ex} (h : DJ X W (v1 :: v2 :: rest) ms) : DE X W (.JoinedStr (v1 :: v2 :: rest) pos) (eJoin ms) :=
  pe_imp (pe_joined h.pj) fun σV H Q ⟨f, σ, S, r, hE, hS, hr, hq⟩ => js_go hE hS hr hq
end
end Z
set_option maxRecDepth 100000
set_option maxHeartbeats 1000000
namespace Z
open PySem PySem.Spec PyProof.Rows L2

/-! ## data of a bounded size -/
mutual
/-- a measure: above the signs of a repr -/
def ms : PyData → Nat
  | .none => 4
  | .bool _ => 5
  | .int i => i.natAbs.log2 + 3
  | .str x => 10 * x.length + 2
  | .list xs => mss xs + 3
  | .tuple xs => mss xs + 3
  | .dict kvs => (PyData.shown (.dict kvs)).length + 2
def mss : List PyData → Nat
  | [] => 0
  | x :: xs => ms x + 2 + mss xs
end
def asc (x : Str) : Bool := x.cps.toList.all fun c => decide (c < 128)
def okKv (b : Nat) (kvs : List (PyData × PyData)) : Bool := match kvs with
  | [] => true
  | [(.int i, .int j)] => decide (i.natAbs.log2 < b) && decide (j.natAbs.log2 < b)
  | _ => false
theorem okKv_of {b : Nat} {kvs : List (PyData × PyData)} (h : okKv b kvs = true) : kvs = [] ∨ ∃ i j : Int, kvs = [(.int i, .int j)] ∧ i.natAbs.log2 < b ∧ j.natAbs.log2 < b := by
  unfold okKv at h
  split at h
  · exact .inl rfl
  · rename_i i j
    simp only [Bool.and_eq_true, decide_eq_true_eq] at h
    exact .inr ⟨i, j, rfl, h⟩
  · cases h
mutual
/-- ints below 2 ^ b, ASCII texts, dicts that are {} or {int: int} -/
def okS (b : Nat) : PyData → Bool
  | .none => true
  | .bool _ => true
  | .int i => decide (i.natAbs.log2 < b)
  | .str x => asc x
  | .list xs => okSs b xs
  | .tuple xs => okSs b xs
  | .dict kvs => okKv b kvs
def okSs (b : Nat) : List PyData → Bool
  | [] => true
  | x :: xs => okS b x && okSs b xs
end
theorem mss_app (xs ys : List PyData) : mss (xs ++ ys) = mss xs + mss ys := by
  induction xs with
  | nil => simp [mss]
  | cons x xs ih => simp only [List.cons_append, mss, ih]; omega
theorem mss_mem {d : PyData} : ∀ {xs : List PyData}, d ∈ xs → ms d + 2 ≤ mss xs
  | x :: xs, h => by
    rcases List.mem_cons.mp h with rfl | h
    · simp only [mss]; omega
    · have := mss_mem h
      simp only [mss]; omega
theorem mss_len (xs : List PyData) : 2 * xs.length ≤ mss xs := by
  induction xs with
  | nil => simp [mss]
  | cons x xs ih => simp only [List.length_cons, mss]; omega
theorem mss_take (xs : List PyData) (n : Nat) : mss (xs.take n) ≤ mss xs := by
  have h := mss_app (xs.take n) (xs.drop n)
  rw [List.take_append_drop] at h
  omega
theorem mss_drop (xs : List PyData) (n : Nat) : mss (xs.drop n) ≤ mss xs := by
  have h := mss_app (xs.take n) (xs.drop n)
  rw [List.take_append_drop] at h
  omega
theorem mss_rev (xs : List PyData) : mss xs.reverse = mss xs := by
  induction xs with
  | nil => rfl
  | cons x xs ih => rw [List.reverse_cons, mss_app, ih]; simp only [mss]; omega
theorem mss_cut (xs : List PyData) (lo hi : Option Int) : mss (cutD xs lo hi) ≤ mss xs := Nat.le_trans (mss_take _ _) (mss_drop _ _)
theorem okSs_app {b : Nat} (xs ys : List PyData) : okSs b (xs ++ ys) = (okSs b xs && okSs b ys) := by
  induction xs with
  | nil => simp [okSs]
  | cons x xs ih => simp only [List.cons_append, okSs, ih, Bool.and_assoc]
theorem okSs_mem {b : Nat} {d : PyData} : ∀ {xs : List PyData}, okSs b xs = true → d ∈ xs → okS b d = true
  | x :: xs, h, m => by
    simp only [okSs, Bool.and_eq_true] at h
    rcases List.mem_cons.mp m with rfl | m
    · exact h.1
    · exact okSs_mem h.2 m
theorem okSs_of {b : Nat} : ∀ {xs : List PyData}, (∀ d ∈ xs, okS b d = true) → okSs b xs = true
  | [], _ => by simp [okSs]
  | x :: xs, h => by
    simp only [okSs, Bool.and_eq_true]
    exact ⟨h x List.mem_cons_self, okSs_of fun d m => h d (List.mem_cons_of_mem _ m)⟩
theorem okSs_sub {b : Nat} {xs ys : List PyData} (h : okSs b xs = true) (s : ∀ d ∈ ys, d ∈ xs) : okSs b ys = true := okSs_of fun d m => okSs_mem h (s d m)
theorem cut_mem {xs : List PyData} {lo hi : Option Int} {d : PyData} (h : d ∈ cutD xs lo hi) : d ∈ xs := List.mem_of_mem_drop (List.mem_of_mem_take h)
mutual
theorem okS_mono {b c : Nat} (h : b ≤ c) : ∀ d : PyData, okS b d = true → okS c d = true
  | .none, _ => by simp [okS]
  | .bool _, _ => by simp [okS]
  | .int i, q => by simp only [okS, decide_eq_true_eq] at q ⊢; omega
  | .str x, q => by simp only [okS] at q ⊢; exact q
  | .list xs, q => by simp only [okS] at q ⊢; exact okSs_mono h xs q
  | .tuple xs, q => by simp only [okS] at q ⊢; exact okSs_mono h xs q
  | .dict kvs, q => by
    simp only [okS] at q ⊢
    rcases okKv_of q with rfl | ⟨i, j, rfl, h1, h2⟩
    · rfl
    · simp only [okKv, Bool.and_eq_true, decide_eq_true_eq]; omega
theorem okSs_mono {b c : Nat} (h : b ≤ c) : ∀ ds : List PyData, okSs b ds = true → okSs c ds = true
  | [], _ => by simp [okSs]
  | d :: ds, q => by
    simp only [okSs, Bool.and_eq_true] at q ⊢
    exact ⟨okS_mono h d q.1, okSs_mono h ds q.2⟩
end
theorem okS_dict {b : Nat} {kvs : List (PyData × PyData)} (h : okS b (.dict kvs) = true) : kvs = [] ∨ ∃ i j : Int, kvs = [(.int i, .int j)] ∧ i.natAbs.log2 < b ∧ j.natAbs.log2 < b := okKv_of (by simpa [okS] using h)
mutual
theorem sz_ms {b : Nat} : ∀ d : PyData, okS b d = true → szR d ≤ ms d
  | .none, _ => by simp [szR, ms]
  | .bool _, _ => by simp [szR, ms]
  | .int i, _ => by simp [szR, ms]
  | .str x, h => by
    simp only [szR, ms]
    refine PySem.StrLaws.reprText_len x fun c hc => ?_
    simp only [okS, asc, List.all_eq_true, decide_eq_true_eq] at h
    have := h c hc
    omega
  | .list xs, h => by
    have := szs_ms xs (by simpa [okS] using h)
    simp only [szR, ms]; omega
  | .tuple xs, h => by
    have := szs_ms xs (by simpa [okS] using h)
    simp only [szR, ms]; omega
  | .dict kvs, _ => by simp only [szR, ms]; omega
theorem szs_ms {b : Nat} : ∀ ds : List PyData, okSs b ds = true → szRs ds ≤ mss ds
  | [], _ => by simp [szRs, mss]
  | d :: ds, h => by
    simp only [okSs, Bool.and_eq_true] at h
    have h1 := sz_ms d h.1
    have h2 := szs_ms ds h.2
    simp only [szRs, mss]; omega
end
mutual
theorem show_okS {b : Nat} (hb : b ≤ 1920) : ∀ d : PyData, okS b d = true → d.showable = true
  | .none, _ => by simp [PyData.showable]
  | .bool _, _ => by simp [PyData.showable]
  | .int i, h => by simp only [okS, decide_eq_true_eq] at h; simp only [PyData.showable, decide_eq_true_eq]; omega
  | .str x, _ => by simp [PyData.showable]
  | .list xs, h => by simp only [PyData.showable]; exact show_okSs hb xs (by simpa [okS] using h)
  | .tuple xs, h => by simp only [PyData.showable]; exact show_okSs hb xs (by simpa [okS] using h)
  | .dict kvs, h => by
    rcases okS_dict h with rfl | ⟨i, j, rfl, h1, h2⟩
    · simp [PyData.showable, PyData.showableKv]
    · have h1' : i.natAbs.log2 < 1920 := by omega
      have h2' : j.natAbs.log2 < 1920 := by omega
      simp [PyData.showable, PyData.showableKv, h1', h2']
theorem show_okSs {b : Nat} (hb : b ≤ 1920) : ∀ ds : List PyData, okSs b ds = true → PyData.showableAll ds = true
  | [], _ => by simp [PyData.showableAll]
  | d :: ds, h => by
    simp only [okSs, Bool.and_eq_true] at h
    simp only [PyData.showableAll, Bool.and_eq_true]
    exact ⟨show_okS hb d h.1, show_okSs hb ds h.2⟩
end
/-- bounded: ints, depth, size -/
structure Sz (b dep sz : Nat) (d : PyData) : Prop where
  b : okS b d = true
  p : d.depth ≤ dep
  z : ms d ≤ sz
structure Szs (b dep sz : Nat) (ds : List PyData) : Prop where
  b : okSs b ds = true
  p : PyData.depthAll ds ≤ dep
  z : mss ds ≤ sz
def smD (b dep sz : Nat) (d : PyData) : Bool := okS b d && decide (d.depth ≤ dep) && decide (ms d ≤ sz)
theorem Sz.of {b dep sz : Nat} {d : PyData} (h : smD b dep sz d = true) : Sz b dep sz d := by
  simp only [smD, Bool.and_eq_true, decide_eq_true_eq] at h
  exact ⟨h.1.1, h.1.2, h.2⟩
section
variable {b dep sz sz2 b' dep' sz' : Nat} {d : PyData} {ds es : List PyData}
theorem Sz.mono (h : Sz b dep sz d) (h1 : b ≤ b') (h2 : dep ≤ dep') (h3 : sz ≤ sz') : Sz b' dep' sz' d := ⟨okS_mono h1 d h.b, Nat.le_trans h.p h2, Nat.le_trans h.z h3⟩
theorem Szs.mono (h : Szs b dep sz ds) (h1 : b ≤ b') (h2 : dep ≤ dep') (h3 : sz ≤ sz') : Szs b' dep' sz' ds := ⟨okSs_mono h1 ds h.b, Nat.le_trans h.p h2, Nat.le_trans h.z h3⟩
theorem Sz.okR (h : Sz b dep sz d) (h1 : b ≤ 1920 := by omega) (h2 : dep ≤ 100 := by omega) (h3 : sz ≤ 16777216 := by omega) : okR d :=
  okR_of (show_okS h1 d h.b) (Nat.le_trans h.p h2) (Nat.le_trans (sz_ms d h.b) (Nat.le_trans h.z (by rw [sizeLine_eq]; exact h3)))
theorem depth_mem : ∀ {ds : List PyData} {d : PyData}, d ∈ ds → d.depth ≤ PyData.depthAll ds
  | x :: xs, d, h => by
    simp only [PyData.depthAll]
    rcases List.mem_cons.mp h with rfl | h
    · omega
    · have := depth_mem h; omega
theorem depth_of : ∀ {ds : List PyData} {n : Nat}, (∀ d ∈ ds, d.depth ≤ n) → PyData.depthAll ds ≤ n
  | [], _, _ => by simp [PyData.depthAll]
  | x :: xs, n, h => by
    simp only [PyData.depthAll]
    have h1 := h x List.mem_cons_self
    have h2 := depth_of fun d m => h d (List.mem_cons_of_mem _ m)
    omega
theorem Szs.nil : Szs b dep sz [] := ⟨by simp [okSs], by simp [PyData.depthAll], by simp [mss]⟩
theorem Szs.cons (h : Sz b dep sz d) (r : Szs b dep sz2 ds) : Szs b dep (sz + 2 + sz2) (d :: ds) :=
  ⟨by simp [okSs, h.b, r.b], by have := h.p; have := r.p; simp only [PyData.depthAll]; omega, by have := h.z; have := r.z; simp only [mss]; omega⟩
theorem Szs.app (h : Szs b dep sz ds) (r : Szs b dep sz2 es) : Szs b dep (sz + sz2) (ds ++ es) :=
  ⟨by rw [okSs_app, h.b, r.b]; rfl, depth_of fun d m => (List.mem_append.mp m).elim (fun m => Nat.le_trans (depth_mem m) h.p) fun m => Nat.le_trans (depth_mem m) r.p, by have := h.z; have := r.z; rw [mss_app]; omega⟩
theorem Szs.sub (h : Szs b dep sz ds) (s : ∀ d ∈ es, d ∈ ds) (z : mss es ≤ sz) : Szs b dep sz es := ⟨okSs_sub h.b s, depth_of fun d m => Nat.le_trans (depth_mem (s d m)) h.p, z⟩
theorem Szs.cut (h : Szs b dep sz ds) (lo hi : Option Int) : Szs b dep sz (cutD ds lo hi) := h.sub (fun _ => cut_mem) (Nat.le_trans (mss_cut _ _ _) h.z)
theorem Szs.rev (h : Szs b dep sz ds) : Szs b dep sz ds.reverse := h.sub (fun _ m => List.mem_reverse.mp m) (by rw [mss_rev]; exact h.z)
theorem Szs.mem (h : Szs b dep sz ds) (m : d ∈ ds) : Sz b dep sz d := ⟨okSs_mem h.b m, Nat.le_trans (depth_mem m) h.p, by have := mss_mem m; have := h.z; omega⟩
theorem Szs.len (h : Szs b dep sz ds) : 2 * ds.length ≤ sz := Nat.le_trans (mss_len ds) h.z
theorem Szs.tup (h : Szs b dep sz ds) : Sz b (dep + 1) (sz + 3) (.tuple ds) := ⟨by simp only [okS]; exact h.b, by have := h.p; simp only [PyData.depth]; omega, by have := h.z; simp only [ms]; omega⟩
theorem Szs.lst (h : Szs b dep sz ds) : Sz b (dep + 1) (sz + 3) (.list ds) := ⟨by simp only [okS]; exact h.b, by have := h.p; simp only [PyData.depth]; omega, by have := h.z; simp only [ms]; omega⟩
theorem Sz.tupI (h : Sz b dep sz (.tuple ds)) : Szs b (dep - 1) (sz - 3) ds ∧ 1 ≤ dep ∧ 3 ≤ sz := by
  have h1 := h.b
  have h2 := h.p
  have h3 := h.z
  simp only [okS] at h1
  simp only [PyData.depth] at h2
  simp only [ms] at h3
  exact ⟨⟨h1, by omega, by omega⟩, by omega, by omega⟩
theorem Sz.lstI (h : Sz b dep sz (.list ds)) : Szs b (dep - 1) (sz - 3) ds ∧ 1 ≤ dep ∧ 3 ≤ sz := by
  have h1 := h.b
  have h2 := h.p
  have h3 := h.z
  simp only [okS] at h1
  simp only [PyData.depth] at h2
  simp only [ms] at h3
  exact ⟨⟨h1, by omega, by omega⟩, by omega, by omega⟩
theorem Sz.int {i : Int} (h : i.natAbs.log2 < b) : Sz b dep (b + 2) (.int i) := ⟨by simp only [okS, decide_eq_true_eq]; exact h, by simp [PyData.depth], by simp only [ms]; omega⟩
theorem Sz.bool {c : Bool} : Sz b dep 5 (.bool c) := ⟨by simp [okS], by simp [PyData.depth], by simp [ms]⟩
theorem Sz.none : Sz b dep 4 .none := ⟨by simp [okS], by simp [PyData.depth], by simp [ms]⟩
theorem Sz.str {x : Str} (h : asc x = true) : Sz b dep (10 * x.length + 2) (.str x) := ⟨by simp only [okS]; exact h, by simp [PyData.depth], by simp only [ms]; omega⟩
end
/-- ints of some bits -/
theorem log_lt {i : Int} {n : Nat} (h : i.natAbs < 2 ^ n) (hn : 0 < n) : i.natAbs.log2 < n := by
  by_cases h0 : i.natAbs = 0
  · rw [h0]; simpa using hn
  · exact (Nat.log2_lt h0).mpr h
theorem lt_log {i : Int} {n : Nat} (h : i.natAbs.log2 < n) : i.natAbs < 2 ^ n := by
  by_cases h0 : i.natAbs = 0
  · rw [h0]; exact Nat.pow_pos (by omega)
  · exact (Nat.log2_lt h0).mp h
theorem log_add {i j : Int} {n : Nat} (h : i.natAbs.log2 < n) (hj : j.natAbs < 2 ^ n) : (i + j).natAbs.log2 < n + 1 := by
  refine log_lt ?_ (by omega)
  have := lt_log h
  have := Int.natAbs_add_le i j
  rw [Nat.pow_succ]
  omega
theorem log_neg {i : Int} {n : Nat} (h : i.natAbs.log2 < n) : (-i).natAbs.log2 < n := by rw [Int.natAbs_neg]; exact h
end Z
set_option maxRecDepth 100000
namespace T
open PySem PySem.Spec PyProof.Rows L2 Z
def topS (i : Nat) : Stmt := PySem.Challenge.pw_wordlaws_k03_levels_inverses_and_errors.main.body.getD i (.Pass ⟨0, 0, 0, 0⟩)
abbrev so_l_InvalidBasis : Subs := [((Str.ofString "InvalidWidth"), false), ((Str.ofString "InvalidVector"), false), ((Str.ofString "InvalidNumber"), false)]
abbrev so_l_InvalidNumber : Subs := [((Str.ofString "InvalidWidth"), false), ((Str.ofString "InvalidVector"), false), ((Str.ofString "InvalidNumber"), true)]
abbrev so_l_InvalidVector : Subs := [((Str.ofString "InvalidWidth"), false), ((Str.ofString "InvalidVector"), true), ((Str.ofString "InvalidNumber"), false)]
abbrev so_l_InvalidWidth : Subs := [((Str.ofString "InvalidWidth"), true), ((Str.ofString "InvalidVector"), false), ((Str.ofString "InvalidNumber"), false)]
abbrev so_l_WordsError : Subs := [((Str.ofString "InvalidWidth"), true), ((Str.ofString "InvalidVector"), true), ((Str.ofString "InvalidNumber"), false)]
section
variable {P : Program} {w : World} {K : PySem.W.Frag} {mg : Str → Option Value} {base : Heap}
/-! ### fits_bounds -/
abbrev st_fits_bounds : Stmt := topS 15
abbrev n_fits_bounds : List Str := [(Str.ofString "value"), (Str.ofString "low"), (Str.ofString "high")]
theorem sc_fits_bounds : FnScope n_fits_bounds [(Str.ofString "value"), (Str.ofString "low"), (Str.ofString "high")] (defScope st_fits_bounds) := ⟨rfl, rfl, rfl, by decide +kernel, rfl, by decide +kernel, by decide +kernel⟩
noncomputable def m_fits_bounds : Sm :=
    (sRet (eAnd (eIsi "int" (eVar 0)) (eAnd (eNot (eIsi "bool" (eVar 0))) (eChain pLe pLe (eVar 1) (eVar 0) (eVar 2)))))
noncomputable def f_fits_bounds : Fn := fun args S => if args.length = 3 then fnRun 0 (m_fits_bounds ) args S else none
theorem ok_fits_bounds (nb : NB mg) {f : Addr} {fd : FuncData} (F : Fun K (Str.ofString "fits_bounds") (Str.ofString "fits_bounds") st_fits_bounds f fd) (hm : mg (Str.ofString "fits_bounds") = some (.ref f)) : FnG P w K mg base 1 (Str.ofString "fits_bounds") f_fits_bounds :=
  fn_def (m := m_fits_bounds ) F hm sc_fits_bounds rfl (fun _ _ _ _ _ _ us hl => match us, hl with | [_, _, _], _ => rfl) fun cdv A outer s H E g =>
    (db_one (ds_ret (de_and (de_isi (n := "int") (by decide) nb.isinstance nb.int bt_int (de_var 0)) (de_and (de_not (de_isi (n := "bool") (by decide) nb.isinstance nb.bool bt_bool (de_var 0))) (de_one (de_chLeLe (de_var 1) (de_var 0) (de_var 2)))))))
/-! ### is_width -/
abbrev st_is_width : Stmt := topS 9
abbrev n_is_width : List Str := [(Str.ofString "value")]
theorem sc_is_width : FnScope n_is_width [(Str.ofString "value")] (defScope st_is_width) := ⟨rfl, rfl, rfl, by decide +kernel, rfl, by decide +kernel, by decide +kernel⟩
noncomputable def m_is_width : Sm :=
    (sRet (eCall f_fits_bounds (esCons (eVar 0) (esCons (eLit (.int 1)) (esCons (eLit (.int 16)) esNil)))))
noncomputable def f_is_width : Fn := fun args S => if args.length = 1 then fnRun 0 (m_is_width ) args S else none
theorem ok_is_width (nb : NB mg) (h_fits_bounds : FnG P w K mg base 1 (Str.ofString "fits_bounds") f_fits_bounds) (c_MAX_WIDTH : Σ' t, mg (Str.ofString "MAX_WIDTH") = some (.int 16 t)) {f : Addr} {fd : FuncData} (F : Fun K (Str.ofString "is_width") (Str.ofString "is_width") st_is_width f fd) (hm : mg (Str.ofString "is_width") = some (.ref f)) : FnG P w K mg base 2 (Str.ofString "is_width") f_is_width :=
  fn_def (m := m_is_width ) F hm sc_is_width rfl (fun _ _ _ _ _ _ us hl => match us, hl with | [_], _ => rfl) fun cdv A outer s H E g =>
    (db_one (ds_ret (de_call g (h_fits_bounds.mono (by decide)) (da_cons (de_var 0) (da_cons de_int (da_cons (de_globI c_MAX_WIDTH.2) da_nil))))))
/-! ### need_width -/
abbrev st_need_width : Stmt := topS 20
abbrev n_need_width : List Str := [(Str.ofString "value")]
theorem sc_need_width : FnScope n_need_width [(Str.ofString "value")] (defScope st_need_width) := ⟨rfl, rfl, rfl, by decide +kernel, rfl, by decide +kernel, by decide +kernel⟩
noncomputable def m_need_width : Sm :=
    (sIf (tNt (tVal (eCall f_is_width (esCons (eVar 0) esNil)))) (sRaise (Str.ofString "InvalidWidth") (eLit (.str (Str.ofString "a width is an integer from 1 to 16")))) sNil)
noncomputable def f_need_width : Fn := fun args S => if args.length = 1 then fnRun 0 (m_need_width ) args S else none
theorem ok_need_width (nb : NB mg) (h_is_width : FnG P w K mg base 2 (Str.ofString "is_width") f_is_width) (mc_InvalidWidth : MsgC K mg (Str.ofString "InvalidWidth")) {f : Addr} {fd : FuncData} (F : Fun K (Str.ofString "need_width") (Str.ofString "need_width") st_need_width f fd) (hm : mg (Str.ofString "need_width") = some (.ref f)) : FnG P w K mg base 3 (Str.ofString "need_width") f_need_width :=
  fn_def (m := m_need_width ) F hm sc_need_width rfl (fun _ _ _ _ _ _ us hl => match us, hl with | [_], _ => rfl) fun cdv A outer s H E g =>
    (db_one (ds_if (dt_not (dt_val (de_call g (h_is_width.mono (by decide)) (da_cons (de_var 0) da_nil)))) (db_one (ds_raise g mc_InvalidWidth de_str)) db_nil))
/-! ### fits_size -/
abbrev st_fits_size : Stmt := topS 16
abbrev n_fits_size : List Str := [(Str.ofString "value")]
theorem sc_fits_size : FnScope n_fits_size [(Str.ofString "value")] (defScope st_fits_size) := ⟨rfl, rfl, rfl, by decide +kernel, rfl, by decide +kernel, by decide +kernel⟩
noncomputable def m_fits_size : Sm :=
    (sRet (eCall f_fits_bounds (esCons (eVar 0) (esCons (eLit (.int 1)) (esCons (eLit (.int 40)) esNil)))))
noncomputable def f_fits_size : Fn := fun args S => if args.length = 1 then fnRun 0 (m_fits_size ) args S else none
theorem ok_fits_size (nb : NB mg) (h_fits_bounds : FnG P w K mg base 1 (Str.ofString "fits_bounds") f_fits_bounds) (c_MAX_SIZE : Σ' t, mg (Str.ofString "MAX_SIZE") = some (.int 40 t)) {f : Addr} {fd : FuncData} (F : Fun K (Str.ofString "fits_size") (Str.ofString "fits_size") st_fits_size f fd) (hm : mg (Str.ofString "fits_size") = some (.ref f)) : FnG P w K mg base 2 (Str.ofString "fits_size") f_fits_size :=
  fn_def (m := m_fits_size ) F hm sc_fits_size rfl (fun _ _ _ _ _ _ us hl => match us, hl with | [_], _ => rfl) fun cdv A outer s H E g =>
    (db_one (ds_ret (de_call g (h_fits_bounds.mono (by decide)) (da_cons (de_var 0) (da_cons de_int (da_cons (de_globI c_MAX_SIZE.2) da_nil))))))
/-! ### need_size -/
abbrev st_need_size : Stmt := topS 21
abbrev n_need_size : List Str := [(Str.ofString "value")]
theorem sc_need_size : FnScope n_need_size [(Str.ofString "value")] (defScope st_need_size) := ⟨rfl, rfl, rfl, by decide +kernel, rfl, by decide +kernel, by decide +kernel⟩
noncomputable def m_need_size : Sm :=
    (sIf (tNt (tVal (eCall f_fits_size (esCons (eVar 0) esNil)))) (sRaiseK (Str.ofString "InvalidNumber") (Str.ofString "value") (esCons (eVar 0) esNil)) sNil)
noncomputable def f_need_size : Fn := fun args S => if args.length = 1 then fnRun 0 (m_need_size ) args S else none
theorem ok_need_size (nb : NB mg) (h_fits_size : FnG P w K mg base 2 (Str.ofString "fits_size") f_fits_size) (fd_InvalidNumber : FldC P w K mg base (Str.ofString "InvalidNumber") (Str.ofString "value")) {f : Addr} {fd : FuncData} (F : Fun K (Str.ofString "need_size") (Str.ofString "need_size") st_need_size f fd) (hm : mg (Str.ofString "need_size") = some (.ref f)) : FnG P w K mg base 3 (Str.ofString "need_size") f_need_size :=
  fn_def (m := m_need_size ) F hm sc_need_size rfl (fun _ _ _ _ _ _ us hl => match us, hl with | [_], _ => rfl) fun cdv A outer s H E g =>
    (db_one (ds_if (dt_not (dt_val (de_call g (h_fits_size.mono (by decide)) (da_cons (de_var 0) da_nil)))) (db_one (ds_raiseK g fd_InvalidNumber (by decide) (da_cons (de_var 0) da_nil))) db_nil))
/-! ### fits_word -/
abbrev st_fits_word : Stmt := topS 17
abbrev n_fits_word : List Str := [(Str.ofString "width"), (Str.ofString "value")]
theorem sc_fits_word : FnScope n_fits_word [(Str.ofString "width"), (Str.ofString "value")] (defScope st_fits_word) := ⟨rfl, rfl, rfl, by decide +kernel, rfl, by decide +kernel, by decide +kernel⟩
noncomputable def m_fits_word : Sm :=
    (sRet (eCall f_fits_bounds (esCons (eVar 1) (esCons (eLit (.int 0)) (esCons (eBin pSub (eBin pShl (eLit (.int 1)) (eVar 0)) (eLit (.int 1))) esNil)))))
noncomputable def f_fits_word : Fn := fun args S => if args.length = 2 then fnRun 0 (m_fits_word ) args S else none
theorem ok_fits_word (nb : NB mg) (h_fits_bounds : FnG P w K mg base 1 (Str.ofString "fits_bounds") f_fits_bounds) {f : Addr} {fd : FuncData} (F : Fun K (Str.ofString "fits_word") (Str.ofString "fits_word") st_fits_word f fd) (hm : mg (Str.ofString "fits_word") = some (.ref f)) : FnG P w K mg base 2 (Str.ofString "fits_word") f_fits_word :=
  fn_def (m := m_fits_word ) F hm sc_fits_word rfl (fun _ _ _ _ _ _ us hl => match us, hl with | [_, _], _ => rfl) fun cdv A outer s H E g =>
    (db_one (ds_ret (de_call g (h_fits_bounds.mono (by decide)) (da_cons (de_var 1) (da_cons de_int (da_cons (de_sub (de_shl de_int (de_var 0)) de_int) da_nil))))))
/-! ### fits_words -/
abbrev st_fits_words : Stmt := topS 18
abbrev n_fits_words : List Str := [(Str.ofString "width"), (Str.ofString "count"), (Str.ofString "value"), (Str.ofString "entry")]
theorem sc_fits_words : FnScope n_fits_words [(Str.ofString "width"), (Str.ofString "count"), (Str.ofString "value")] (defScope st_fits_words) := ⟨rfl, rfl, rfl, by decide +kernel, rfl, by decide +kernel, by decide +kernel⟩
noncomputable def m_fits_words : Sm :=
    (sRet (eAnd (eIsi "tuple" (eVar 2)) (eAnd (eBin pEq (eCa pLen (esCons (eVar 2) esNil)) (eVar 1)) (eCa pAll (esCons (eComp (wSeq (eVar 2)) (gVar 3) tTrue (eCall f_fits_word (esCons (eVar 0) (esCons (eVar 3) esNil))) [3]) esNil)))))
noncomputable def f_fits_words : Fn := fun args S => if args.length = 3 then fnRun 1 (m_fits_words ) args S else none
theorem ok_fits_words (nb : NB mg) (h_fits_word : FnG P w K mg base 2 (Str.ofString "fits_word") f_fits_word) {f : Addr} {fd : FuncData} (F : Fun K (Str.ofString "fits_words") (Str.ofString "fits_words") st_fits_words f fd) (hm : mg (Str.ofString "fits_words") = some (.ref f)) : FnG P w K mg base 3 (Str.ofString "fits_words") f_fits_words :=
  fn_def (m := m_fits_words ) F hm sc_fits_words rfl (fun _ _ _ _ _ _ us hl => match us, hl with | [_, _, _], _ => rfl) fun cdv A outer s H E g =>
    (db_one (ds_ret (de_and (de_isi (n := "tuple") (by decide) nb.isinstance nb.tuple bt_tuple (de_var 2)) (de_and (de_eq g.q (c_len nb.len (de_var 2)) (de_var 1)) (de_one (c_all g nb.all (de_comp g.calm g.nd (di_seq (de_var 2)) (blkOk_by (own := [((Str.ofString "entry"), 3)]) (N := n_fits_words) (sc := defScope st_fits_words) (by decide +kernel)) (by decide) (fun s H C cl fp => (dg_var (g.blk s H _ _ fp).nd)) (fun s H C cl fp => dts_nil) (fun s H C cl fp => (de_call (g.blk s H _ _ fp) (h_fits_word.mono (by decide)) (da_cons (de_var 0) (da_cons (de_var 3) da_nil)))))))))))
/-! ### fits_vector -/
abbrev st_fits_vector : Stmt := topS 19
abbrev n_fits_vector : List Str := [(Str.ofString "width"), (Str.ofString "size"), (Str.ofString "value")]
theorem sc_fits_vector : FnScope n_fits_vector [(Str.ofString "width"), (Str.ofString "size"), (Str.ofString "value")] (defScope st_fits_vector) := ⟨rfl, rfl, rfl, by decide +kernel, rfl, by decide +kernel, by decide +kernel⟩
noncomputable def m_fits_vector : Sm :=
    (sRet (eCall f_fits_words (esCons (eVar 0) (esCons (eVar 1) (esCons (eVar 2) esNil)))))
noncomputable def f_fits_vector : Fn := fun args S => if args.length = 3 then fnRun 0 (m_fits_vector ) args S else none
theorem ok_fits_vector (nb : NB mg) (h_fits_words : FnG P w K mg base 3 (Str.ofString "fits_words") f_fits_words) {f : Addr} {fd : FuncData} (F : Fun K (Str.ofString "fits_vector") (Str.ofString "fits_vector") st_fits_vector f fd) (hm : mg (Str.ofString "fits_vector") = some (.ref f)) : FnG P w K mg base 4 (Str.ofString "fits_vector") f_fits_vector :=
  fn_def (m := m_fits_vector ) F hm sc_fits_vector rfl (fun _ _ _ _ _ _ us hl => match us, hl with | [_, _, _], _ => rfl) fun cdv A outer s H E g =>
    (db_one (ds_ret (de_call g (h_fits_words.mono (by decide)) (da_cons (de_var 0) (da_cons (de_var 1) (da_cons (de_var 2) da_nil))))))
/-! ### need_vector -/
abbrev st_need_vector : Stmt := topS 23
abbrev n_need_vector : List Str := [(Str.ofString "width"), (Str.ofString "size"), (Str.ofString "value")]
theorem sc_need_vector : FnScope n_need_vector [(Str.ofString "width"), (Str.ofString "size"), (Str.ofString "value")] (defScope st_need_vector) := ⟨rfl, rfl, rfl, by decide +kernel, rfl, by decide +kernel, by decide +kernel⟩
noncomputable def m_need_vector : Sm :=
    (sIf (tNt (tVal (eCall f_fits_vector (esCons (eVar 0) (esCons (eVar 1) (esCons (eVar 2) esNil)))))) (sRaise (Str.ofString "InvalidVector") (eJoin [(eLit (.str (Str.ofString "a vector of size "))), (eUn pFmt (eVar 1)), (eLit (.str (Str.ofString " is a tuple of "))), (eUn pFmt (eVar 1)), (eLit (.str (Str.ofString " words of width "))), (eUn pFmt (eVar 0))])) sNil)
noncomputable def f_need_vector : Fn := fun args S => if args.length = 3 then fnRun 0 (m_need_vector ) args S else none
theorem ok_need_vector (nb : NB mg) (h_fits_vector : FnG P w K mg base 4 (Str.ofString "fits_vector") f_fits_vector) (mc_InvalidVector : MsgC K mg (Str.ofString "InvalidVector")) {f : Addr} {fd : FuncData} (F : Fun K (Str.ofString "need_vector") (Str.ofString "need_vector") st_need_vector f fd) (hm : mg (Str.ofString "need_vector") = some (.ref f)) : FnG P w K mg base 5 (Str.ofString "need_vector") f_need_vector :=
  fn_def (m := m_need_vector ) F hm sc_need_vector rfl (fun _ _ _ _ _ _ us hl => match us, hl with | [_, _, _], _ => rfl) fun cdv A outer s H E g =>
    (db_one (ds_if (dt_not (dt_val (de_call g (h_fits_vector.mono (by decide)) (da_cons (de_var 0) (da_cons (de_var 1) (da_cons (de_var 2) da_nil)))))) (db_one (ds_raise g mc_InvalidVector (de_join (.cons de_str (.cons (de_fmt (de_var 1)) (.cons de_str (.cons (de_fmt (de_var 1)) (.cons de_str (.cons (de_fmt (de_var 0)) .nil))))))))) db_nil))
/-! ### need_vectors -/
abbrev st_need_vectors : Stmt := topS 25
abbrev n_need_vectors : List Str := [(Str.ofString "width"), (Str.ofString "size"), (Str.ofString "value"), (Str.ofString "vector")]
theorem sc_need_vectors : FnScope n_need_vectors [(Str.ofString "width"), (Str.ofString "size"), (Str.ofString "value")] (defScope st_need_vectors) := ⟨rfl, rfl, rfl, by decide +kernel, rfl, by decide +kernel, by decide +kernel⟩
noncomputable def m_need_vectors : Sm :=
    (sSeq (sIf (tNt (tVal (eIsi "tuple" (eVar 2)))) (sRaise (Str.ofString "InvalidVector") (eLit (.str (Str.ofString "vectors stand in a tuple")))) sNil)
    (sFor (wSeq (eVar 2)) (gVar 3) (sDo (eCall f_need_vector (esCons (eVar 0) (esCons (eVar 1) (esCons (eVar 3) esNil)))))))
noncomputable def f_need_vectors : Fn := fun args S => if args.length = 3 then fnRun 1 (m_need_vectors ) args S else none
theorem ok_need_vectors (nb : NB mg) (h_need_vector : FnG P w K mg base 5 (Str.ofString "need_vector") f_need_vector) (mc_InvalidVector : MsgC K mg (Str.ofString "InvalidVector")) {f : Addr} {fd : FuncData} (F : Fun K (Str.ofString "need_vectors") (Str.ofString "need_vectors") st_need_vectors f fd) (hm : mg (Str.ofString "need_vectors") = some (.ref f)) : FnG P w K mg base 6 (Str.ofString "need_vectors") f_need_vectors :=
  fn_def (m := m_need_vectors ) F hm sc_need_vectors rfl (fun _ _ _ _ _ _ us hl => match us, hl with | [_, _, _], _ => rfl) fun cdv A outer s H E g =>
    (db_cons (ds_if (dt_not (dt_val (de_isi (n := "tuple") (by decide) nb.isinstance nb.tuple bt_tuple (de_var 2)))) (db_one (ds_raise g mc_InvalidVector de_str)) db_nil)
    (db_one (ds_for g.po g.calm (di_seq (de_var 2)) (dg_var g.nd) (db_one (ds_do (de_call g (h_need_vector.mono (by decide)) (da_cons (de_var 0) (da_cons (de_var 1) (da_cons (de_var 3) da_nil)))))))))
/-! ### added -/
abbrev st_added : Stmt := topS 26
abbrev n_added : List Str := [(Str.ofString "width"), (Str.ofString "first"), (Str.ofString "second"), (Str.ofString "mask"), (Str.ofString "x"), (Str.ofString "y")]
theorem sc_added : FnScope n_added [(Str.ofString "width"), (Str.ofString "first"), (Str.ofString "second")] (defScope st_added) := ⟨rfl, rfl, rfl, by decide +kernel, rfl, by decide +kernel, by decide +kernel⟩
noncomputable def m_added : Sm :=
    (sSeq (sSet 3 (eBin pSub (eBin pShl (eLit (.int 1)) (eVar 0)) (eLit (.int 1))))
    (sRet (eCa pTupOf (esCons (eComp (wZip (eVar 1) (eVar 2)) (gPair (gVar 4) (gVar 5)) tTrue (eBin pAnd (eBin pPlus (eVar 4) (eVar 5)) (eVar 3)) [4, 5]) esNil))))
noncomputable def f_added : Fn := fun args S => if args.length = 3 then fnRun 3 (m_added ) args S else none
theorem ok_added (nb : NB mg) {f : Addr} {fd : FuncData} (F : Fun K (Str.ofString "added") (Str.ofString "added") st_added f fd) (hm : mg (Str.ofString "added") = some (.ref f)) : FnG P w K mg base 1 (Str.ofString "added") f_added :=
  fn_def (m := m_added ) F hm sc_added rfl (fun _ _ _ _ _ _ us hl => match us, hl with | [_, _, _], _ => rfl) fun cdv A outer s H E g =>
    (db_cons (s_set g.q (de_sub (de_shl de_int (de_var 0)) de_int))
    (db_one (ds_ret (c_tuple nb.tuple (de_comp g.calm g.nd (di_zip nb.zip (de_var 1) (de_var 2)) (blkOk_by (own := [((Str.ofString "x"), 4), ((Str.ofString "y"), 5)]) (N := n_added) (sc := defScope st_added) (by decide +kernel)) (by decide) (fun s H C cl fp => (dg_pair (g.blk s H _ _ fp).calm (dg_var (g.blk s H _ _ fp).nd) (dg_var (g.blk s H _ _ fp).nd))) (fun s H C cl fp => dts_nil) (fun s H C cl fp => (de_and_ (de_plus (de_var 4) (de_var 5)) (de_var 3))))))))
/-! ### vector_sum -/
abbrev st_vector_sum : Stmt := topS 10
abbrev n_vector_sum : List Str := [(Str.ofString "width"), (Str.ofString "size"), (Str.ofString "vectors"), (Str.ofString "total"), (Str.ofString "vector")]
theorem sc_vector_sum : FnScope n_vector_sum ([(Str.ofString "width"), (Str.ofString "size")] ++ [(Str.ofString "vectors")]) (defScope st_vector_sum) := ⟨rfl, rfl, rfl, by decide +kernel, rfl, by decide +kernel, by decide +kernel⟩
noncomputable def m_vector_sum : Sm :=
    (sSeq (sDo (eCall f_need_width (esCons (eVar 0) esNil)))
    (sSeq (sDo (eCall f_need_size (esCons (eVar 1) esNil)))
    (sSeq (sDo (eCall f_need_vectors (esCons (eVar 0) (esCons (eVar 1) (esCons (eVar 2) esNil)))))
    (sSeq (sSet 3 (eBin pTimes (eCa dispT (esCons (eLit (.int 0)) esNil)) (eVar 1)))
    (sSeq (sFor (wSeq (eVar 2)) (gVar 4) (sSet 3 (eCall f_added (esCons (eVar 0) (esCons (eVar 3) (esCons (eVar 4) esNil))))))
    (sRet (eVar 3)))))))
noncomputable def f_vector_sum : Fn := fun args S => if 2 ≤ args.length then (dats (args.drop 2)).bind fun ds => if ds.length ≤ sizeLine then fnRun 2 (m_vector_sum ) (args.take 2 ++ [.d (.tuple ds)]) S else none else none
theorem ok_vector_sum (nb : NB mg) (h_need_width : FnG P w K mg base 3 (Str.ofString "need_width") f_need_width) (h_need_size : FnG P w K mg base 3 (Str.ofString "need_size") f_need_size) (h_need_vectors : FnG P w K mg base 6 (Str.ofString "need_vectors") f_need_vectors) (h_added : FnG P w K mg base 1 (Str.ofString "added") f_added) {f : Addr} {fd : FuncData} (F : Fun K (Str.ofString "vector_sum") (Str.ofString "vector_sum") st_vector_sum f fd) (hm : mg (Str.ofString "vector_sum") = some (.ref f)) : FnG P w K mg base 7 (Str.ofString "vector_sum") f_vector_sum :=
  fn_star (m := m_vector_sum ) F hm sc_vector_sum rfl (fun _ _ _ _ _ _ us rest hl => match us, rest, hl with | [_, _], [], _ => rfl | [_, _], _ :: _, _ => rfl) fun cdv A outer s H E g =>
    (db_cons (ds_do (de_call g (h_need_width.mono (by decide)) (da_cons (de_var 0) da_nil)))
    (db_cons (ds_do (de_call g (h_need_size.mono (by decide)) (da_cons (de_var 1) da_nil)))
    (db_cons (ds_do (de_call g (h_need_vectors.mono (by decide)) (da_cons (de_var 0) (da_cons (de_var 1) (da_cons (de_var 2) da_nil)))))
    (db_cons (s_set g.q (de_times (de_tup (da_cons de_int da_nil)) (de_var 1)))
    (db_cons (ds_for g.po g.calm (di_seq (de_var 2)) (dg_var g.nd) (db_one (s_set g.q (de_call g (h_added.mono (by decide)) (da_cons (de_var 0) (da_cons (de_var 3) (da_cons (de_var 4) da_nil)))))))
    (db_one (ds_ret (de_var 3))))))))
/-! ### need_any_vector -/
abbrev st_need_any_vector : Stmt := topS 24
abbrev n_need_any_vector : List Str := [(Str.ofString "width"), (Str.ofString "value")]
theorem sc_need_any_vector : FnScope n_need_any_vector [(Str.ofString "width"), (Str.ofString "value")] (defScope st_need_any_vector) := ⟨rfl, rfl, rfl, by decide +kernel, rfl, by decide +kernel, by decide +kernel⟩
noncomputable def m_need_any_vector : Sm :=
    (sSeq (sIf (tOr_ (tNt (tVal (eIsi "tuple" (eVar 1)))) (tNt (tVal (eCall f_fits_size (esCons (eCa pLen (esCons (eVar 1) esNil)) esNil))))) (sRaise (Str.ofString "InvalidVector") (eLit (.str (Str.ofString "a vector is a tuple of 1 to 40 words")))) sNil)
    (sDo (eCall f_need_vector (esCons (eVar 0) (esCons (eCa pLen (esCons (eVar 1) esNil)) (esCons (eVar 1) esNil))))))
noncomputable def f_need_any_vector : Fn := fun args S => if args.length = 2 then fnRun 0 (m_need_any_vector ) args S else none
theorem ok_need_any_vector (nb : NB mg) (h_fits_size : FnG P w K mg base 2 (Str.ofString "fits_size") f_fits_size) (h_need_vector : FnG P w K mg base 5 (Str.ofString "need_vector") f_need_vector) (mc_InvalidVector : MsgC K mg (Str.ofString "InvalidVector")) {f : Addr} {fd : FuncData} (F : Fun K (Str.ofString "need_any_vector") (Str.ofString "need_any_vector") st_need_any_vector f fd) (hm : mg (Str.ofString "need_any_vector") = some (.ref f)) : FnG P w K mg base 6 (Str.ofString "need_any_vector") f_need_any_vector :=
  fn_def (m := m_need_any_vector ) F hm sc_need_any_vector rfl (fun _ _ _ _ _ _ us hl => match us, hl with | [_, _], _ => rfl) fun cdv A outer s H E g =>
    (db_cons (ds_if (dt_w (dw_or (dt_not (dt_val (de_isi (n := "tuple") (by decide) nb.isinstance nb.tuple bt_tuple (de_var 1)))) (dw_or1 (dt_not (dt_val (de_call g (h_fits_size.mono (by decide)) (da_cons (c_len nb.len (de_var 1)) da_nil))))))) (db_one (ds_raise g mc_InvalidVector de_str)) db_nil)
    (db_one (ds_do (de_call g (h_need_vector.mono (by decide)) (da_cons (de_var 0) (da_cons (c_len nb.len (de_var 1)) (da_cons (de_var 1) da_nil)))))))
/-! ### need_word -/
abbrev st_need_word : Stmt := topS 22
abbrev n_need_word : List Str := [(Str.ofString "width"), (Str.ofString "value")]
theorem sc_need_word : FnScope n_need_word [(Str.ofString "width"), (Str.ofString "value")] (defScope st_need_word) := ⟨rfl, rfl, rfl, by decide +kernel, rfl, by decide +kernel, by decide +kernel⟩
noncomputable def m_need_word : Sm :=
    (sIf (tNt (tVal (eCall f_fits_word (esCons (eVar 0) (esCons (eVar 1) esNil))))) (sRaiseK (Str.ofString "InvalidNumber") (Str.ofString "value") (esCons (eVar 1) esNil)) sNil)
noncomputable def f_need_word : Fn := fun args S => if args.length = 2 then fnRun 0 (m_need_word ) args S else none
theorem ok_need_word (nb : NB mg) (h_fits_word : FnG P w K mg base 2 (Str.ofString "fits_word") f_fits_word) (fd_InvalidNumber : FldC P w K mg base (Str.ofString "InvalidNumber") (Str.ofString "value")) {f : Addr} {fd : FuncData} (F : Fun K (Str.ofString "need_word") (Str.ofString "need_word") st_need_word f fd) (hm : mg (Str.ofString "need_word") = some (.ref f)) : FnG P w K mg base 3 (Str.ofString "need_word") f_need_word :=
  fn_def (m := m_need_word ) F hm sc_need_word rfl (fun _ _ _ _ _ _ us hl => match us, hl with | [_, _], _ => rfl) fun cdv A outer s H E g =>
    (db_one (ds_if (dt_not (dt_val (de_call g (h_fits_word.mono (by decide)) (da_cons (de_var 0) (da_cons (de_var 1) da_nil))))) (db_one (ds_raiseK g fd_InvalidNumber (by decide) (da_cons (de_var 1) da_nil))) db_nil))
/-! ### multiplied -/
abbrev st_multiplied : Stmt := topS 27
abbrev n_multiplied : List Str := [(Str.ofString "width"), (Str.ofString "vector"), (Str.ofString "factor"), (Str.ofString "mask"), (Str.ofString "x")]
theorem sc_multiplied : FnScope n_multiplied [(Str.ofString "width"), (Str.ofString "vector"), (Str.ofString "factor")] (defScope st_multiplied) := ⟨rfl, rfl, rfl, by decide +kernel, rfl, by decide +kernel, by decide +kernel⟩
noncomputable def m_multiplied : Sm :=
    (sSeq (sSet 3 (eBin pSub (eBin pShl (eLit (.int 1)) (eVar 0)) (eLit (.int 1))))
    (sRet (eCa pTupOf (esCons (eComp (wSeq (eVar 1)) (gVar 4) tTrue (eBin pAnd (eBin pTimes (eVar 4) (eVar 2)) (eVar 3)) [4]) esNil))))
noncomputable def f_multiplied : Fn := fun args S => if args.length = 3 then fnRun 2 (m_multiplied ) args S else none
theorem ok_multiplied (nb : NB mg) {f : Addr} {fd : FuncData} (F : Fun K (Str.ofString "multiplied") (Str.ofString "multiplied") st_multiplied f fd) (hm : mg (Str.ofString "multiplied") = some (.ref f)) : FnG P w K mg base 1 (Str.ofString "multiplied") f_multiplied :=
  fn_def (m := m_multiplied ) F hm sc_multiplied rfl (fun _ _ _ _ _ _ us hl => match us, hl with | [_, _, _], _ => rfl) fun cdv A outer s H E g =>
    (db_cons (s_set g.q (de_sub (de_shl de_int (de_var 0)) de_int))
    (db_one (ds_ret (c_tuple nb.tuple (de_comp g.calm g.nd (di_seq (de_var 1)) (blkOk_by (own := [((Str.ofString "x"), 4)]) (N := n_multiplied) (sc := defScope st_multiplied) (by decide +kernel)) (by decide) (fun s H C cl fp => (dg_var (g.blk s H _ _ fp).nd)) (fun s H C cl fp => dts_nil) (fun s H C cl fp => (de_and_ (de_times (de_var 4) (de_var 2)) (de_var 3))))))))
/-! ### vector_multiple -/
abbrev st_vector_multiple : Stmt := topS 11
abbrev n_vector_multiple : List Str := [(Str.ofString "width"), (Str.ofString "vector"), (Str.ofString "factor")]
theorem sc_vector_multiple : FnScope n_vector_multiple [(Str.ofString "width"), (Str.ofString "vector"), (Str.ofString "factor")] (defScope st_vector_multiple) := ⟨rfl, rfl, rfl, by decide +kernel, rfl, by decide +kernel, by decide +kernel⟩
noncomputable def m_vector_multiple : Sm :=
    (sSeq (sDo (eCall f_need_width (esCons (eVar 0) esNil)))
    (sSeq (sDo (eCall f_need_any_vector (esCons (eVar 0) (esCons (eVar 1) esNil))))
    (sSeq (sDo (eCall f_need_word (esCons (eVar 0) (esCons (eVar 2) esNil))))
    (sRet (eCall f_multiplied (esCons (eVar 0) (esCons (eVar 1) (esCons (eVar 2) esNil))))))))
noncomputable def f_vector_multiple : Fn := fun args S => if args.length = 3 then fnRun 0 (m_vector_multiple ) args S else none
theorem ok_vector_multiple (nb : NB mg) (h_need_width : FnG P w K mg base 3 (Str.ofString "need_width") f_need_width) (h_need_any_vector : FnG P w K mg base 6 (Str.ofString "need_any_vector") f_need_any_vector) (h_need_word : FnG P w K mg base 3 (Str.ofString "need_word") f_need_word) (h_multiplied : FnG P w K mg base 1 (Str.ofString "multiplied") f_multiplied) {f : Addr} {fd : FuncData} (F : Fun K (Str.ofString "vector_multiple") (Str.ofString "vector_multiple") st_vector_multiple f fd) (hm : mg (Str.ofString "vector_multiple") = some (.ref f)) : FnG P w K mg base 7 (Str.ofString "vector_multiple") f_vector_multiple :=
  fn_def (m := m_vector_multiple ) F hm sc_vector_multiple rfl (fun _ _ _ _ _ _ us hl => match us, hl with | [_, _, _], _ => rfl) fun cdv A outer s H E g =>
    (db_cons (ds_do (de_call g (h_need_width.mono (by decide)) (da_cons (de_var 0) da_nil)))
    (db_cons (ds_do (de_call g (h_need_any_vector.mono (by decide)) (da_cons (de_var 0) (da_cons (de_var 1) da_nil))))
    (db_cons (ds_do (de_call g (h_need_word.mono (by decide)) (da_cons (de_var 0) (da_cons (de_var 2) da_nil))))
    (db_one (ds_ret (de_call g (h_multiplied.mono (by decide)) (da_cons (de_var 0) (da_cons (de_var 1) (da_cons (de_var 2) da_nil)))))))))
/-! ### dot -/
abbrev st_dot : Stmt := topS 28
abbrev n_dot : List Str := [(Str.ofString "width"), (Str.ofString "first"), (Str.ofString "second"), (Str.ofString "mask"), (Str.ofString "x"), (Str.ofString "y")]
theorem sc_dot : FnScope n_dot [(Str.ofString "width"), (Str.ofString "first"), (Str.ofString "second")] (defScope st_dot) := ⟨rfl, rfl, rfl, by decide +kernel, rfl, by decide +kernel, by decide +kernel⟩
noncomputable def m_dot : Sm :=
    (sSeq (sSet 3 (eBin pSub (eBin pShl (eLit (.int 1)) (eVar 0)) (eLit (.int 1))))
    (sRet (eBin pAnd (eCa pSum (esCons (eComp (wZip (eVar 1) (eVar 2)) (gPair (gVar 4) (gVar 5)) tTrue (eBin pTimes (eVar 4) (eVar 5)) [4, 5]) esNil)) (eVar 3))))
noncomputable def f_dot : Fn := fun args S => if args.length = 3 then fnRun 3 (m_dot ) args S else none
theorem ok_dot (nb : NB mg) {f : Addr} {fd : FuncData} (F : Fun K (Str.ofString "dot") (Str.ofString "dot") st_dot f fd) (hm : mg (Str.ofString "dot") = some (.ref f)) : FnG P w K mg base 1 (Str.ofString "dot") f_dot :=
  fn_def (m := m_dot ) F hm sc_dot rfl (fun _ _ _ _ _ _ us hl => match us, hl with | [_, _, _], _ => rfl) fun cdv A outer s H E g =>
    (db_cons (s_set g.q (de_sub (de_shl de_int (de_var 0)) de_int))
    (db_one (ds_ret (de_and_ (c_sum g nb.sum (de_comp g.calm g.nd (di_zip nb.zip (de_var 1) (de_var 2)) (blkOk_by (own := [((Str.ofString "x"), 4), ((Str.ofString "y"), 5)]) (N := n_dot) (sc := defScope st_dot) (by decide +kernel)) (by decide) (fun s H C cl fp => (dg_pair (g.blk s H _ _ fp).calm (dg_var (g.blk s H _ _ fp).nd) (dg_var (g.blk s H _ _ fp).nd))) (fun s H C cl fp => dts_nil) (fun s H C cl fp => (de_times (de_var 4) (de_var 5))))) (de_var 3)))))
/-! ### dot_product -/
abbrev st_dot_product : Stmt := topS 12
abbrev n_dot_product : List Str := [(Str.ofString "width"), (Str.ofString "first"), (Str.ofString "second")]
theorem sc_dot_product : FnScope n_dot_product [(Str.ofString "width"), (Str.ofString "first"), (Str.ofString "second")] (defScope st_dot_product) := ⟨rfl, rfl, rfl, by decide +kernel, rfl, by decide +kernel, by decide +kernel⟩
noncomputable def m_dot_product : Sm :=
    (sSeq (sDo (eCall f_need_width (esCons (eVar 0) esNil)))
    (sSeq (sDo (eCall f_need_any_vector (esCons (eVar 0) (esCons (eVar 1) esNil))))
    (sSeq (sDo (eCall f_need_vector (esCons (eVar 0) (esCons (eCa pLen (esCons (eVar 1) esNil)) (esCons (eVar 2) esNil)))))
    (sRet (eCall f_dot (esCons (eVar 0) (esCons (eVar 1) (esCons (eVar 2) esNil))))))))
noncomputable def f_dot_product : Fn := fun args S => if args.length = 3 then fnRun 0 (m_dot_product ) args S else none
theorem ok_dot_product (nb : NB mg) (h_need_width : FnG P w K mg base 3 (Str.ofString "need_width") f_need_width) (h_need_vector : FnG P w K mg base 5 (Str.ofString "need_vector") f_need_vector) (h_need_any_vector : FnG P w K mg base 6 (Str.ofString "need_any_vector") f_need_any_vector) (h_dot : FnG P w K mg base 1 (Str.ofString "dot") f_dot) {f : Addr} {fd : FuncData} (F : Fun K (Str.ofString "dot_product") (Str.ofString "dot_product") st_dot_product f fd) (hm : mg (Str.ofString "dot_product") = some (.ref f)) : FnG P w K mg base 7 (Str.ofString "dot_product") f_dot_product :=
  fn_def (m := m_dot_product ) F hm sc_dot_product rfl (fun _ _ _ _ _ _ us hl => match us, hl with | [_, _, _], _ => rfl) fun cdv A outer s H E g =>
    (db_cons (ds_do (de_call g (h_need_width.mono (by decide)) (da_cons (de_var 0) da_nil)))
    (db_cons (ds_do (de_call g (h_need_any_vector.mono (by decide)) (da_cons (de_var 0) (da_cons (de_var 1) da_nil))))
    (db_cons (ds_do (de_call g (h_need_vector.mono (by decide)) (da_cons (de_var 0) (da_cons (c_len nb.len (de_var 1)) (da_cons (de_var 2) da_nil)))))
    (db_one (ds_ret (de_call g (h_dot.mono (by decide)) (da_cons (de_var 0) (da_cons (de_var 1) (da_cons (de_var 2) da_nil)))))))))
/-! ### level -/
abbrev st_level : Stmt := topS 29
abbrev n_level : List Str := [(Str.ofString "width"), (Str.ofString "word")]
theorem sc_level : FnScope n_level [(Str.ofString "width"), (Str.ofString "word")] (defScope st_level) := ⟨rfl, rfl, rfl, by decide +kernel, rfl, by decide +kernel, by decide +kernel⟩
noncomputable def m_level : Sm :=
    (sSeq (sIf (tVal (eBin pEq (eVar 1) (eLit (.int 0)))) (sRet (eVar 0)) sNil)
    (sRet (eBin pSub (eUn pBits (eBin pAnd (eVar 1) (eNeg (eVar 1)))) (eLit (.int 1)))))
noncomputable def f_level : Fn := fun args S => if args.length = 2 then fnRun 0 (m_level ) args S else none
theorem ok_level (nb : NB mg) {f : Addr} {fd : FuncData} (F : Fun K (Str.ofString "level") (Str.ofString "level") st_level f fd) (hm : mg (Str.ofString "level") = some (.ref f)) : FnG P w K mg base 1 (Str.ofString "level") f_level :=
  fn_def (m := m_level ) F hm sc_level rfl (fun _ _ _ _ _ _ us hl => match us, hl with | [_, _], _ => rfl) fun cdv A outer s H E g =>
    (db_cons (ds_if (dt_eq g.q (de_var 1) de_int) (db_one (ds_ret (de_var 0))) db_nil)
    (db_one (ds_ret (de_sub (de_bits (de_and_ (de_var 1) (de_neg (de_var 1)))) de_int))))
/-! ### word_level -/
abbrev st_word_level : Stmt := topS 13
abbrev n_word_level : List Str := [(Str.ofString "width"), (Str.ofString "word")]
theorem sc_word_level : FnScope n_word_level [(Str.ofString "width"), (Str.ofString "word")] (defScope st_word_level) := ⟨rfl, rfl, rfl, by decide +kernel, rfl, by decide +kernel, by decide +kernel⟩
noncomputable def m_word_level : Sm :=
    (sSeq (sDo (eCall f_need_width (esCons (eVar 0) esNil)))
    (sSeq (sDo (eCall f_need_word (esCons (eVar 0) (esCons (eVar 1) esNil))))
    (sRet (eCall f_level (esCons (eVar 0) (esCons (eVar 1) esNil))))))
noncomputable def f_word_level : Fn := fun args S => if args.length = 2 then fnRun 0 (m_word_level ) args S else none
theorem ok_word_level (nb : NB mg) (h_need_width : FnG P w K mg base 3 (Str.ofString "need_width") f_need_width) (h_need_word : FnG P w K mg base 3 (Str.ofString "need_word") f_need_word) (h_level : FnG P w K mg base 1 (Str.ofString "level") f_level) {f : Addr} {fd : FuncData} (F : Fun K (Str.ofString "word_level") (Str.ofString "word_level") st_word_level f fd) (hm : mg (Str.ofString "word_level") = some (.ref f)) : FnG P w K mg base 4 (Str.ofString "word_level") f_word_level :=
  fn_def (m := m_word_level ) F hm sc_word_level rfl (fun _ _ _ _ _ _ us hl => match us, hl with | [_, _], _ => rfl) fun cdv A outer s H E g =>
    (db_cons (ds_do (de_call g (h_need_width.mono (by decide)) (da_cons (de_var 0) da_nil)))
    (db_cons (ds_do (de_call g (h_need_word.mono (by decide)) (da_cons (de_var 0) (da_cons (de_var 1) da_nil))))
    (db_one (ds_ret (de_call g (h_level.mono (by decide)) (da_cons (de_var 0) (da_cons (de_var 1) da_nil)))))))
/-! ### inverse -/
abbrev st_inverse : Stmt := topS 30
abbrev n_inverse : List Str := [(Str.ofString "width"), (Str.ofString "word"), (Str.ofString "mask"), (Str.ofString "found")]
theorem sc_inverse : FnScope n_inverse [(Str.ofString "width"), (Str.ofString "word")] (defScope st_inverse) := ⟨rfl, rfl, rfl, by decide +kernel, rfl, by decide +kernel, by decide +kernel⟩
noncomputable def m_inverse : Sm :=
    (sSeq (sSet 2 (eBin pSub (eBin pShl (eLit (.int 1)) (eVar 0)) (eLit (.int 1))))
    (sSeq (sSet 3 (eLit (.int 1)))
    (sSeq (whGo (tVal (eBin pNe (eBin pAnd (eBin pTimes (eVar 1) (eVar 3)) (eVar 2)) (eLit (.int 1)))) (sSet 3 (eBin pAnd (eBin pTimes (eVar 3) (eBin pSub (eLit (.int 2)) (eBin pTimes (eVar 1) (eVar 3)))) (eVar 2))) 1000)
    (sRet (eVar 3)))))
noncomputable def f_inverse : Fn := fun args S => if args.length = 2 then fnRun 2 (m_inverse ) args S else none
theorem ok_inverse (nb : NB mg) {f : Addr} {fd : FuncData} (F : Fun K (Str.ofString "inverse") (Str.ofString "inverse") st_inverse f fd) (hm : mg (Str.ofString "inverse") = some (.ref f)) : FnG P w K mg base 1 (Str.ofString "inverse") f_inverse :=
  fn_def (m := m_inverse ) F hm sc_inverse rfl (fun _ _ _ _ _ _ us hl => match us, hl with | [_, _], _ => rfl) fun cdv A outer s H E g =>
    (db_cons (s_set g.q (de_sub (de_shl de_int (de_var 0)) de_int))
    (db_cons (s_set g.q de_int)
    (db_cons (ds_while 1000 g.po (dt_ne g.q (de_and_ (de_times (de_var 1) (de_var 3)) (de_var 2)) de_int) (db_one (s_set g.q (de_and_ (de_times (de_var 3) (de_sub de_int (de_times (de_var 1) (de_var 3)))) (de_var 2)))))
    (db_one (ds_ret (de_var 3))))))
/-! ### word_inverse -/
abbrev st_word_inverse : Stmt := topS 14
abbrev n_word_inverse : List Str := [(Str.ofString "width"), (Str.ofString "word")]
theorem sc_word_inverse : FnScope n_word_inverse [(Str.ofString "width"), (Str.ofString "word")] (defScope st_word_inverse) := ⟨rfl, rfl, rfl, by decide +kernel, rfl, by decide +kernel, by decide +kernel⟩
noncomputable def m_word_inverse : Sm :=
    (sSeq (sDo (eCall f_need_width (esCons (eVar 0) esNil)))
    (sSeq (sDo (eCall f_need_word (esCons (eVar 0) (esCons (eVar 1) esNil))))
    (sSeq (sIf (tVal (eBin pGt (eCall f_level (esCons (eVar 0) (esCons (eVar 1) esNil))) (eLit (.int 0)))) (sRaiseK (Str.ofString "InvalidNumber") (Str.ofString "value") (esCons (eVar 1) esNil)) sNil)
    (sRet (eCall f_inverse (esCons (eVar 0) (esCons (eVar 1) esNil)))))))
noncomputable def f_word_inverse : Fn := fun args S => if args.length = 2 then fnRun 0 (m_word_inverse ) args S else none
theorem ok_word_inverse (nb : NB mg) (h_need_width : FnG P w K mg base 3 (Str.ofString "need_width") f_need_width) (h_need_word : FnG P w K mg base 3 (Str.ofString "need_word") f_need_word) (h_level : FnG P w K mg base 1 (Str.ofString "level") f_level) (h_inverse : FnG P w K mg base 1 (Str.ofString "inverse") f_inverse) (fd_InvalidNumber : FldC P w K mg base (Str.ofString "InvalidNumber") (Str.ofString "value")) {f : Addr} {fd : FuncData} (F : Fun K (Str.ofString "word_inverse") (Str.ofString "word_inverse") st_word_inverse f fd) (hm : mg (Str.ofString "word_inverse") = some (.ref f)) : FnG P w K mg base 4 (Str.ofString "word_inverse") f_word_inverse :=
  fn_def (m := m_word_inverse ) F hm sc_word_inverse rfl (fun _ _ _ _ _ _ us hl => match us, hl with | [_, _], _ => rfl) fun cdv A outer s H E g =>
    (db_cons (ds_do (de_call g (h_need_width.mono (by decide)) (da_cons (de_var 0) da_nil)))
    (db_cons (ds_do (de_call g (h_need_word.mono (by decide)) (da_cons (de_var 0) (da_cons (de_var 1) da_nil))))
    (db_cons (ds_if (dt_gt (de_call g (h_level.mono (by decide)) (da_cons (de_var 0) (da_cons (de_var 1) da_nil))) de_int) (db_one (ds_raiseK g fd_InvalidNumber (by decide) (da_cons (de_var 1) da_nil))) db_nil)
    (db_one (ds_ret (de_call g (h_inverse.mono (by decide)) (da_cons (de_var 0) (da_cons (de_var 1) da_nil))))))))
/-! ### _law_stream -/
abbrev st__law_stream : Stmt := topS 32
abbrev n__law_stream : List Str := [(Str.ofString "script"), (Str.ofString "at"), (Str.ofString "cell"), (Str.ofString "great"), (Str.ofString "mixed")]
theorem sc__law_stream : FnScope n__law_stream [(Str.ofString "script"), (Str.ofString "at")] (defScope st__law_stream) := ⟨rfl, rfl, rfl, by decide +kernel, rfl, by decide +kernel, by decide +kernel⟩
noncomputable def m__law_stream : Sm :=
    (sSeq (sSet 2 (eBin pPlus (eBin pTimes (eLit (.int 11)) (eVar 1)) (eLit (.int 4))))
    (sSeq (sIf (tVal (eBin pLt (eVar 1) (eCa pLen (esCons (eVar 0) esNil)))) (sSet 2 (eBin pIx (eVar 0) (eVar 1))) sNil)
    (sSeq (sSet 3 (eBin pMod (eCa pAbs (esCons (eVar 2) esNil)) (eBin pPow (eBin pPow (eLit (.int 10)) (eLit (.int 60))) (eLit (.int 12)))))
    (sSeq (sSet 4 (eBin pMod (eBin pPlus (eBin pPlus (eBin pPlus (eBin pTimes (eBin pMod (eVar 3) (eLit (.int 2147483587))) (eLit (.int 69621))) (eBin pTimes (eLit (.int 1009)) (eVar 1))) (eBin pTimes (eLit (.int 3)) (eCa pInt (esCons (eBin pLt (eVar 2) (eLit (.int 0))) esNil)))) (eLit (.int 17))) (eLit (.int 2147483647))))
    (sRetNew (nLst (esCons (eCa pMax (esCons (eLit (.int 0)) (esCons (eBin pSub (eVar 3) (eBin pPow (eLit (.int 10)) (eLit (.int 18)))) esNil))) (esCons (eVar 4) (esCons (eLit (.int 0)) esNil)))))))))
noncomputable def f__law_stream : Fn := fun args S => if args.length = 2 then fnRun 3 (m__law_stream ) args S else none
theorem ok__law_stream (nb : NB mg) {f : Addr} {fd : FuncData} (F : Fun K (Str.ofString "_law_stream") (Str.ofString "_law_stream") st__law_stream f fd) (hm : mg (Str.ofString "_law_stream") = some (.ref f)) : FnG P w K mg base 1 (Str.ofString "_law_stream") f__law_stream :=
  fn_def (m := m__law_stream ) F hm sc__law_stream rfl (fun _ _ _ _ _ _ us hl => match us, hl with | [_, _], _ => rfl) fun cdv A outer s H E g =>
    (db_cons (s_set g.q (de_plus (de_times de_int (de_var 1)) de_int))
    (db_cons (ds_if (dt_lt (de_var 1) (c_len nb.len (de_var 0))) (db_one (s_set g.q (de_ix (de_var 0) (de_var 1)))) db_nil)
    (db_cons (s_set g.q (de_mod (c_abs nb.abs (de_var 2)) (de_pow (de_pow de_int de_int) de_int)))
    (db_cons (s_set g.q (de_mod (de_plus (de_plus (de_plus (de_times (de_mod (de_var 3) de_int) de_int) (de_times de_int (de_var 1))) (de_times de_int (c_int nb.int (de_lt (de_var 2) de_int)))) de_int) de_int))
    (db_one (ds_retNew (dn_lst (da_cons (c_max g nb.max de_int (de_sub (de_var 3) (de_pow de_int de_int))) (da_cons (de_var 4) (da_cons de_int da_nil))))))))))
/-! ### _law_draw -/
abbrev st__law_draw : Stmt := topS 33
abbrev n__law_draw : List Str := [(Str.ofString "stream"), (Str.ofString "total"), (Str.ofString "found"), (Str.ofString "one"), (Str.ofString "two")]
theorem sc__law_draw : FnScope n__law_draw [(Str.ofString "stream"), (Str.ofString "total")] (defScope st__law_draw) := ⟨rfl, rfl, rfl, by decide +kernel, rfl, by decide +kernel, by decide +kernel⟩
noncomputable def m__law_draw : Sm :=
    (sSeq (sIf (tVal (eBin pGt (eBin pIx (eVar 0) (eLit (.int 0))) (eLit (.int 0)))) (sSeq (sSet 2 (eBin pMod (eBin pIx (eVar 0) (eLit (.int 0))) (eVar 1)))
    (sSeq (sSetIx (eBin pDiv (eBin pIx (eVar 0) (eLit (.int 0))) (eVar 1)) (eVar 0) (eLit (.int 0)))
    (sRet (eVar 2)))) sNil)
    (sSeq (sSetIx (eBin pPlus (eBin pIx (eVar 0) (eLit (.int 2))) (eLit (.int 1))) (eVar 0) (eLit (.int 2)))
    (sSeq (sSet 3 (eBin pMod (eBin pPlus (eBin pIx (eVar 0) (eLit (.int 1))) (eBin pTimes (eLit (.int 1000033)) (eBin pIx (eVar 0) (eLit (.int 2))))) (eLit (.int 2305843009213693951))))
    (sSeq (sSet 4 (eBin pMod (eBin pPlus (eBin pTimes (eBin pMod (eBin pTimes (eVar 3) (eVar 3)) (eLit (.int 2305843009213693921))) (eVar 3)) (eBin pTimes (eLit (.int 7919)) (eBin pIx (eVar 0) (eLit (.int 2))))) (eLit (.int 2305843009213693907))))
    (sRet (eBin pMod (eBin pDiv (eVar 4) (eLit (.int 8192))) (eVar 1)))))))
noncomputable def f__law_draw : Fn := fun args S => if args.length = 2 then fnRun 3 (m__law_draw ) args S else none
theorem ok__law_draw (nb : NB mg) {f : Addr} {fd : FuncData} (F : Fun K (Str.ofString "_law_draw") (Str.ofString "_law_draw") st__law_draw f fd) (hm : mg (Str.ofString "_law_draw") = some (.ref f)) : FnG P w K mg base 1 (Str.ofString "_law_draw") f__law_draw :=
  fn_def (m := m__law_draw ) F hm sc__law_draw rfl (fun _ _ _ _ _ _ us hl => match us, hl with | [_, _], _ => rfl) fun cdv A outer s H E g =>
    (db_cons (ds_if (dt_gt (de_ix (de_var 0) de_int) de_int) (db_cons (s_set g.q (de_mod (de_ix (de_var 0) de_int) (de_var 1)))
    (db_cons (ds_setIx (de_div (de_ix (de_var 0) de_int) (de_var 1)) (de_var 0) de_int)
    (db_one (ds_ret (de_var 2))))) db_nil)
    (db_cons (ds_setIx (de_plus (de_ix (de_var 0) de_int) de_int) (de_var 0) de_int)
    (db_cons (s_set g.q (de_mod (de_plus (de_ix (de_var 0) de_int) (de_times de_int (de_ix (de_var 0) de_int))) de_int))
    (db_cons (s_set g.q (de_mod (de_plus (de_times (de_mod (de_times (de_var 3) (de_var 3)) de_int) (de_var 3)) (de_times de_int (de_ix (de_var 0) de_int))) de_int))
    (db_one (ds_ret (de_mod (de_div (de_var 4) de_int) (de_var 1))))))))
/-! ### _law_pick -/
abbrev st__law_pick : Stmt := topS 34
abbrev n__law_pick : List Str := [(Str.ofString "stream"), (Str.ofString "items")]
theorem sc__law_pick : FnScope n__law_pick [(Str.ofString "stream"), (Str.ofString "items")] (defScope st__law_pick) := ⟨rfl, rfl, rfl, by decide +kernel, rfl, by decide +kernel, by decide +kernel⟩
noncomputable def m__law_pick : Sm :=
    (sRet (eBin pIx (eVar 1) (eCall f__law_draw (esCons (eVar 0) (esCons (eCa pLen (esCons (eVar 1) esNil)) esNil)))))
noncomputable def f__law_pick : Fn := fun args S => if args.length = 2 then fnRun 0 (m__law_pick ) args S else none
theorem ok__law_pick (nb : NB mg) (h__law_draw : FnG P w K mg base 1 (Str.ofString "_law_draw") f__law_draw) {f : Addr} {fd : FuncData} (F : Fun K (Str.ofString "_law_pick") (Str.ofString "_law_pick") st__law_pick f fd) (hm : mg (Str.ofString "_law_pick") = some (.ref f)) : FnG P w K mg base 2 (Str.ofString "_law_pick") f__law_pick :=
  fn_def (m := m__law_pick ) F hm sc__law_pick rfl (fun _ _ _ _ _ _ us hl => match us, hl with | [_, _], _ => rfl) fun cdv A outer s H E g =>
    (db_one (ds_ret (de_ix (de_var 1) (de_call g (h__law_draw.mono (by decide)) (da_cons (de_var 0) (da_cons (c_len nb.len (de_var 1)) da_nil))))))
/-! ### _law_row -/
abbrev st__law_row : Stmt := topS 35
abbrev n__law_row : List Str := [(Str.ofString "stream"), (Str.ofString "width"), (Str.ofString "size"), (Str.ofString "some"), (Str.ofString "top"), (Str.ofString "at")]
theorem sc__law_row : FnScope n__law_row [(Str.ofString "stream"), (Str.ofString "width"), (Str.ofString "size")] (defScope st__law_row) := ⟨rfl, rfl, rfl, by decide +kernel, rfl, by decide +kernel, by decide +kernel⟩
noncomputable def m__law_row : Sm :=
    (sSeq (sParN 3 4 (nLst esNil) (eBin pShl (eLit (.int 1)) (eVar 1)))
    (sSeq (sFor (wRng1 (eVar 2)) (gVar 5) (sDo (eApp (eVar 3) (eBin pIx (eCa dispL (esCons (eLit (.int 0)) (esCons (eLit (.int 1)) (esCons (eLit (.int 0)) (esCons (eLit (.int 1)) (esCons (eBin pMod (eLit (.int 2)) (eVar 4)) (esCons (eBin pSub (eVar 4) (eLit (.int 1))) (esCons (eBin pDiv (eVar 4) (eLit (.int 2))) (esCons (eCall f__law_draw (esCons (eVar 0) (esCons (eVar 4) esNil))) esNil))))))))) (eCall f__law_draw (esCons (eVar 0) (esCons (eLit (.int 8)) esNil)))))))
    (sRet (eCa pTupOf (esCons (eVar 3) esNil)))))
noncomputable def f__law_row : Fn := fun args S => if args.length = 3 then fnRun 3 (m__law_row ) args S else none
theorem ok__law_row (nb : NB mg) (h__law_draw : FnG P w K mg base 1 (Str.ofString "_law_draw") f__law_draw) {f : Addr} {fd : FuncData} (F : Fun K (Str.ofString "_law_row") (Str.ofString "_law_row") st__law_row f fd) (hm : mg (Str.ofString "_law_row") = some (.ref f)) : FnG P w K mg base 2 (Str.ofString "_law_row") f__law_row :=
  fn_def (m := m__law_row ) F hm sc__law_row rfl (fun _ _ _ _ _ _ us hl => match us, hl with | [_, _, _], _ => rfl) fun cdv A outer s H E g =>
    (db_cons (ds_parN g (dn_lst da_nil) (de_shl de_int (de_var 1)))
    (db_cons (ds_for g.po g.calm (di_rng1 nb.range (de_var 2)) (dg_var g.nd) (db_one (ds_do (de_append (de_var 3) (de_ix (de_lst (da_cons de_int (da_cons de_int (da_cons de_int (da_cons de_int (da_cons (de_mod de_int (de_var 4)) (da_cons (de_sub (de_var 4) de_int) (da_cons (de_div (de_var 4) de_int) (da_cons (de_call g (h__law_draw.mono (by decide)) (da_cons (de_var 0) (da_cons (de_var 4) da_nil))) da_nil))))))))) (de_call g (h__law_draw.mono (by decide)) (da_cons (de_var 0) (da_cons de_int da_nil))))))))
    (db_one (ds_ret (c_tuple nb.tuple (de_var 3))))))
/-! ### _law_other -/
abbrev st__law_other : Stmt := topS 36
abbrev n__law_other : List Str := [(Str.ofString "stream"), (Str.ofString "some")]
theorem sc__law_other : FnScope n__law_other [(Str.ofString "stream")] (defScope st__law_other) := ⟨rfl, rfl, rfl, by decide +kernel, rfl, by decide +kernel, by decide +kernel⟩
noncomputable def m__law_other : Sm :=
    (sSeq (sSet 1 (eCa dispL (esCons (eLit .none) (esCons (eLit (.bool true)) (esCons (eLit (.bool false)) (esCons (eNeg (eLit (.int 1))) (esCons (eLit (.int 0)) (esCons (eLit (.int 1)) (esCons (eLit (.int 2)) (esCons (eLit (.int 15)) (esCons (eLit (.int 16)) (esCons (eLit (.int 17)) (esCons (eLit (.int 40)) (esCons (eLit (.int 41)) (esCons (eBin pPow (eLit (.int 10)) (eLit (.int 39))) (esCons (eBin pSub (eLit (.int 0)) (eBin pPow (eLit (.int 10)) (eLit (.int 39)))) (esCons (eLit (.str (Str.ofString ""))) (esCons (eLit (.str (Str.ofString "a"))) (esCons (eLit (.str (Str.ofString "1"))) (esCons (eCa dispT esNil) (esCons (eCa dispL esNil) (esCons (eLit (.dict [])) (esCons (eCa dispT (esCons (eLit (.int 0)) esNil)) esNil)))))))))))))))))))))))
    (sSeq (sSet 1 (eBin pPlus (eVar 1) (eCa dispL (esCons (eCa dispT (esCons (eLit (.bool true)) esNil)) (esCons (eCa dispT (esCons (eCa dispT esNil) esNil)) (esCons (eCa dispL (esCons (eLit (.int 1)) esNil)) (esCons (eCa dispT (esCons (eLit (.int 1)) (esCons (eLit (.int 0)) esNil))) (esCons (eCa dispT (esCons (eLit .none) esNil)) (esCons (eLit (.dict [(.int 0, .int 1)])) (esCons (eCa dispT (esCons (eLit (.str (Str.ofString "1"))) esNil)) (esCons (eCa dispT (esCons (eCa dispT (esCons (eLit (.int 1)) (esCons (eLit (.int 0)) esNil))) esNil)) (esCons (eCa dispL (esCons (eCa dispT (esCons (eLit (.int 1)) esNil)) esNil)) (esCons (eCa dispT (esCons (eLit (.int 0)) (esCons (eNeg (eLit (.int 1))) esNil))) (esCons (eCa dispT (esCons (eLit (.int 65536)) esNil)) esNil))))))))))))))
    (sRet (eCall f__law_pick (esCons (eVar 0) (esCons (eVar 1) esNil))))))
noncomputable def f__law_other : Fn := fun args S => if args.length = 1 then fnRun 1 (m__law_other ) args S else none
theorem ok__law_other (nb : NB mg) (h__law_pick : FnG P w K mg base 2 (Str.ofString "_law_pick") f__law_pick) {f : Addr} {fd : FuncData} (F : Fun K (Str.ofString "_law_other") (Str.ofString "_law_other") st__law_other f fd) (hm : mg (Str.ofString "_law_other") = some (.ref f)) : FnG P w K mg base 3 (Str.ofString "_law_other") f__law_other :=
  fn_def (m := m__law_other ) F hm sc__law_other rfl (fun _ _ _ _ _ _ us hl => match us, hl with | [_], _ => rfl) fun cdv A outer s H E g =>
    (db_cons (s_set g.q (de_lst (da_cons de_non (da_cons de_bl (da_cons de_bl (da_cons (de_neg de_int) (da_cons de_int (da_cons de_int (da_cons de_int (da_cons de_int (da_cons de_int (da_cons de_int (da_cons de_int (da_cons de_int (da_cons (de_pow de_int de_int) (da_cons (de_sub de_int (de_pow de_int de_int)) (da_cons de_str (da_cons de_str (da_cons de_str (da_cons (de_tup da_nil) (da_cons (de_lst da_nil) (da_cons de_dict0 (da_cons (de_tup (da_cons de_int da_nil)) da_nil)))))))))))))))))))))))
    (db_cons (s_set g.q (de_plus (de_var 1) (de_lst (da_cons (de_tup (da_cons de_bl da_nil)) (da_cons (de_tup (da_cons (de_tup da_nil) da_nil)) (da_cons (de_lst (da_cons de_int da_nil)) (da_cons (de_tup (da_cons de_int (da_cons de_int da_nil))) (da_cons (de_tup (da_cons de_non da_nil)) (da_cons de_dict1 (da_cons (de_tup (da_cons de_str da_nil)) (da_cons (de_tup (da_cons (de_tup (da_cons de_int (da_cons de_int da_nil))) da_nil)) (da_cons (de_lst (da_cons (de_tup (da_cons de_int da_nil)) da_nil)) (da_cons (de_tup (da_cons de_int (da_cons (de_neg de_int) da_nil))) (da_cons (de_tup (da_cons de_int da_nil)) da_nil))))))))))))))
    (db_one (ds_ret (de_call g (h__law_pick.mono (by decide)) (da_cons (de_var 0) (da_cons (de_var 1) da_nil)))))))
/-! ### _law_width -/
abbrev st__law_width : Stmt := topS 37
abbrev n__law_width : List Str := [(Str.ofString "stream")]
theorem sc__law_width : FnScope n__law_width [(Str.ofString "stream")] (defScope st__law_width) := ⟨rfl, rfl, rfl, by decide +kernel, rfl, by decide +kernel, by decide +kernel⟩
noncomputable def m__law_width : Sm :=
    (sRet (eBin pIx (eCa dispL (esCons (eLit (.int 1)) (esCons (eLit (.int 2)) (esCons (eLit (.int 3)) (esCons (eLit (.int 4)) (esCons (eLit (.int 8)) (esCons (eLit (.int 16)) (esCons (eLit (.int 5)) (esCons (eBin pPlus (eLit (.int 1)) (eCall f__law_draw (esCons (eVar 0) (esCons (eLit (.int 16)) esNil)))) esNil))))))))) (eCall f__law_draw (esCons (eVar 0) (esCons (eLit (.int 8)) esNil)))))
noncomputable def f__law_width : Fn := fun args S => if args.length = 1 then fnRun 0 (m__law_width ) args S else none
theorem ok__law_width (nb : NB mg) (h__law_draw : FnG P w K mg base 1 (Str.ofString "_law_draw") f__law_draw) {f : Addr} {fd : FuncData} (F : Fun K (Str.ofString "_law_width") (Str.ofString "_law_width") st__law_width f fd) (hm : mg (Str.ofString "_law_width") = some (.ref f)) : FnG P w K mg base 2 (Str.ofString "_law_width") f__law_width :=
  fn_def (m := m__law_width ) F hm sc__law_width rfl (fun _ _ _ _ _ _ us hl => match us, hl with | [_], _ => rfl) fun cdv A outer s H E g =>
    (db_one (ds_ret (de_ix (de_lst (da_cons de_int (da_cons de_int (da_cons de_int (da_cons de_int (da_cons de_int (da_cons de_int (da_cons de_int (da_cons (de_plus de_int (de_call g (h__law_draw.mono (by decide)) (da_cons (de_var 0) (da_cons de_int da_nil)))) da_nil))))))))) (de_call g (h__law_draw.mono (by decide)) (da_cons (de_var 0) (da_cons de_int da_nil))))))
/-! ### _law_size -/
abbrev st__law_size : Stmt := topS 38
abbrev n__law_size : List Str := [(Str.ofString "stream")]
theorem sc__law_size : FnScope n__law_size [(Str.ofString "stream")] (defScope st__law_size) := ⟨rfl, rfl, rfl, by decide +kernel, rfl, by decide +kernel, by decide +kernel⟩
noncomputable def m__law_size : Sm :=
    (sRet (eBin pIx (eCa dispL (esCons (eLit (.int 1)) (esCons (eLit (.int 2)) (esCons (eLit (.int 3)) (esCons (eLit (.int 2)) (esCons (eLit (.int 4)) (esCons (eBin pPlus (eLit (.int 1)) (eCall f__law_draw (esCons (eVar 0) (esCons (eLit (.int 40)) esNil)))) esNil))))))) (eCall f__law_draw (esCons (eVar 0) (esCons (eLit (.int 6)) esNil)))))
noncomputable def f__law_size : Fn := fun args S => if args.length = 1 then fnRun 0 (m__law_size ) args S else none
theorem ok__law_size (nb : NB mg) (h__law_draw : FnG P w K mg base 1 (Str.ofString "_law_draw") f__law_draw) {f : Addr} {fd : FuncData} (F : Fun K (Str.ofString "_law_size") (Str.ofString "_law_size") st__law_size f fd) (hm : mg (Str.ofString "_law_size") = some (.ref f)) : FnG P w K mg base 2 (Str.ofString "_law_size") f__law_size :=
  fn_def (m := m__law_size ) F hm sc__law_size rfl (fun _ _ _ _ _ _ us hl => match us, hl with | [_], _ => rfl) fun cdv A outer s H E g =>
    (db_one (ds_ret (de_ix (de_lst (da_cons de_int (da_cons de_int (da_cons de_int (da_cons de_int (da_cons de_int (da_cons (de_plus de_int (de_call g (h__law_draw.mono (by decide)) (da_cons (de_var 0) (da_cons de_int da_nil)))) da_nil))))))) (de_call g (h__law_draw.mono (by decide)) (da_cons (de_var 0) (da_cons de_int da_nil))))))
/-! ### _law_is_word -/
abbrev st__law_is_word : Stmt := topS 39
abbrev n__law_is_word : List Str := [(Str.ofString "width"), (Str.ofString "value")]
theorem sc__law_is_word : FnScope n__law_is_word [(Str.ofString "width"), (Str.ofString "value")] (defScope st__law_is_word) := ⟨rfl, rfl, rfl, by decide +kernel, rfl, by decide +kernel, by decide +kernel⟩
noncomputable def m__law_is_word : Sm :=
    (sRet (eAnd (eIsi "int" (eVar 1)) (eAnd (eNot (eIsi "bool" (eVar 1))) (eChain pLe pLt (eLit (.int 0)) (eVar 1) (eBin pShl (eLit (.int 1)) (eVar 0))))))
noncomputable def f__law_is_word : Fn := fun args S => if args.length = 2 then fnRun 0 (m__law_is_word ) args S else none
theorem ok__law_is_word (nb : NB mg) {f : Addr} {fd : FuncData} (F : Fun K (Str.ofString "_law_is_word") (Str.ofString "_law_is_word") st__law_is_word f fd) (hm : mg (Str.ofString "_law_is_word") = some (.ref f)) : FnG P w K mg base 1 (Str.ofString "_law_is_word") f__law_is_word :=
  fn_def (m := m__law_is_word ) F hm sc__law_is_word rfl (fun _ _ _ _ _ _ us hl => match us, hl with | [_, _], _ => rfl) fun cdv A outer s H E g =>
    (db_one (ds_ret (de_and (de_isi (n := "int") (by decide) nb.isinstance nb.int bt_int (de_var 1)) (de_and (de_not (de_isi (n := "bool") (by decide) nb.isinstance nb.bool bt_bool (de_var 1))) (de_one (de_chLeLt de_int (de_var 1) (de_shl de_int (de_var 0))))))))
/-! ### _law_is_vector -/
abbrev st__law_is_vector : Stmt := topS 40
abbrev n__law_is_vector : List Str := [(Str.ofString "width"), (Str.ofString "size"), (Str.ofString "value"), (Str.ofString "word")]
theorem sc__law_is_vector : FnScope n__law_is_vector [(Str.ofString "width"), (Str.ofString "size"), (Str.ofString "value")] (defScope st__law_is_vector) := ⟨rfl, rfl, rfl, by decide +kernel, rfl, by decide +kernel, by decide +kernel⟩
noncomputable def m__law_is_vector : Sm :=
    (sSeq (sIf (tOr_ (tNt (tVal (eIsi "tuple" (eVar 2)))) (tVal (eBin pNe (eCa pLen (esCons (eVar 2) esNil)) (eVar 1)))) (sRet (eLit (.bool false))) sNil)
    (sRet (eBin pEq (eComp (wSeq (eVar 2)) (gVar 3) (tNt (tVal (eCall f__law_is_word (esCons (eVar 0) (esCons (eVar 3) esNil))))) (eLit (.int 1)) [3]) (eCa dispL esNil))))
noncomputable def f__law_is_vector : Fn := fun args S => if args.length = 3 then fnRun 1 (m__law_is_vector ) args S else none
theorem ok__law_is_vector (nb : NB mg) (h__law_is_word : FnG P w K mg base 1 (Str.ofString "_law_is_word") f__law_is_word) {f : Addr} {fd : FuncData} (F : Fun K (Str.ofString "_law_is_vector") (Str.ofString "_law_is_vector") st__law_is_vector f fd) (hm : mg (Str.ofString "_law_is_vector") = some (.ref f)) : FnG P w K mg base 2 (Str.ofString "_law_is_vector") f__law_is_vector :=
  fn_def (m := m__law_is_vector ) F hm sc__law_is_vector rfl (fun _ _ _ _ _ _ us hl => match us, hl with | [_, _, _], _ => rfl) fun cdv A outer s H E g =>
    (db_cons (ds_if (dt_w (dw_or (dt_not (dt_val (de_isi (n := "tuple") (by decide) nb.isinstance nb.tuple bt_tuple (de_var 2)))) (dw_or1 (dt_ne g.q (c_len nb.len (de_var 2)) (de_var 1))))) (db_one (ds_ret de_bl)) db_nil)
    (db_one (ds_ret (de_eq g.q (de_comp g.calm g.nd (di_seq (de_var 2)) (blkOk_by (own := [((Str.ofString "word"), 3)]) (N := n__law_is_vector) (sc := defScope st__law_is_vector) (by decide +kernel)) (by decide) (fun s H C cl fp => (dg_var (g.blk s H _ _ fp).nd)) (fun s H C cl fp => (dts_one (dt_not (dt_val (de_call (g.blk s H _ _ fp) (h__law_is_word.mono (by decide)) (da_cons (de_var 0) (da_cons (de_var 3) da_nil))))))) (fun s H C cl fp => de_int)) (de_lst da_nil)))))
/-! ### _law_bent -/
abbrev st__law_bent : Stmt := topS 41
abbrev n__law_bent : List Str := [(Str.ofString "stream"), (Str.ofString "value"), (Str.ofString "at"), (Str.ofString "some")]
theorem sc__law_bent : FnScope n__law_bent [(Str.ofString "stream"), (Str.ofString "value")] (defScope st__law_bent) := ⟨rfl, rfl, rfl, by decide +kernel, rfl, by decide +kernel, by decide +kernel⟩
noncomputable def m__law_bent (rec : Fn) : Sm :=
    (sSeq (sIf (tAd (tVal (eIsi "tuple" (eVar 1))) (tAd (tVal (eBin pNe (eVar 1) (eCa dispT esNil))) (tVal (eBin pGt (eCall f__law_draw (esCons (eVar 0) (esCons (eLit (.int 3)) esNil))) (eLit (.int 0)))))) (sSeq (sSet 2 (eCall f__law_draw (esCons (eVar 0) (esCons (eCa pLen (esCons (eVar 1) esNil)) esNil))))
    (sRet (eBin pPlus (eBin pPlus (eSl (eVar 1) poN (poS (eVar 2))) (eCa dispT (esCons (eCall rec (esCons (eVar 0) (esCons (eBin pIx (eVar 1) (eVar 2)) esNil))) esNil))) (eSl (eVar 1) (poS (eBin pPlus (eVar 2) (eLit (.int 1)))) poN)))) sNil)
    (sSeq (sIf (tVal (eIsi "tuple" (eVar 1))) (sSeq (sSet 3 (eCa dispL (esCons (eCa pListOf (esCons (eVar 1) esNil)) (esCons (eSl (eVar 1) poN (poS (eNeg (eLit (.int 1))))) (esCons (eBin pPlus (eVar 1) (eSl (eVar 1) (poS (eNeg (eLit (.int 1)))) poN)) (esCons (eSl (eVar 1) (poS (eLit (.int 1))) poN) (esCons (eBin pPlus (eVar 1) (eCa dispT (esCons (eLit (.int 0)) esNil))) (esCons (eCa dispT (esCons (eVar 1) esNil)) (esCons (eUn pRev (eVar 1)) (esCons (eCa dispT esNil) (esCons (eLit .none) esNil)))))))))))
    (sRet (eCall f__law_pick (esCons (eVar 0) (esCons (eBin pPlus (eVar 3) (eCa dispL (esCons (eCall f__law_other (esCons (eVar 0) esNil)) esNil))) esNil))))) sNil)
    (sSeq (sIf (tAd (tVal (eIsi "int" (eVar 1))) (tNt (tVal (eIsi "bool" (eVar 1))))) (sSeq (sSet 3 (eCa dispL (esCons (eBin pPlus (eVar 1) (eLit (.int 1))) (esCons (eBin pSub (eVar 1) (eLit (.int 1))) (esCons (eBin pSub (eLit (.int 0)) (eVar 1)) (esCons (eBin pTimes (eLit (.int 2)) (eVar 1)) (esCons (eCa pStr (esCons (eVar 1) esNil)) (esCons (eBin pEq (eVar 1) (eLit (.int 1))) (esCons (eLit .none) (esCons (eCa dispT (esCons (eVar 1) esNil)) (esCons (eCa dispL (esCons (eVar 1) esNil)) (esCons (eLit (.int 65536)) esNil))))))))))))
    (sRet (eCall f__law_pick (esCons (eVar 0) (esCons (eBin pPlus (eVar 3) (eCa dispL (esCons (eCall f__law_other (esCons (eVar 0) esNil)) esNil))) esNil))))) sNil)
    (sRet (eCall f__law_other (esCons (eVar 0) esNil))))))
noncomputable def f__law_bent : Nat → Fn
  | 0 => fun _ _ => none
  | n + 1 => fun args S => if args.length = 2 then fnRun 2 (m__law_bent (f__law_bent n)) args S else none
theorem ok__law_bent_r {rec : Fn} {j : Nat} (hj : 3 ≤ j) (nb : NB mg) (h__law_draw : FnG P w K mg base 1 (Str.ofString "_law_draw") f__law_draw) (h__law_pick : FnG P w K mg base 2 (Str.ofString "_law_pick") f__law_pick) (h__law_other : FnG P w K mg base 3 (Str.ofString "_law_other") f__law_other) (h_rec : FnG P w K mg base j (Str.ofString "_law_bent") rec) {f : Addr} {fd : FuncData} (F : Fun K (Str.ofString "_law_bent") (Str.ofString "_law_bent") st__law_bent f fd) (hm : mg (Str.ofString "_law_bent") = some (.ref f)) : FnG P w K mg base (j + 1) (Str.ofString "_law_bent") (fun args S => if args.length = 2 then fnRun 2 (m__law_bent rec) args S else none) :=
  fn_def (m := m__law_bent rec) F hm sc__law_bent rfl (fun _ _ _ _ _ _ us hl => match us, hl with | [_, _], _ => rfl) fun cdv A outer s H E g =>
    (db_cons (ds_if (dt_w (dw_and (dt_val (de_isi (n := "tuple") (by decide) nb.isinstance nb.tuple bt_tuple (de_var 1))) (dw_and (dt_ne g.q (de_var 1) (de_tup da_nil)) (dw_and1 (dt_gt (de_call g (h__law_draw.mono (Nat.le_trans (show 1 ≤ 3 by decide) hj)) (da_cons (de_var 0) (da_cons de_int da_nil))) de_int))))) (db_cons (s_set g.q (de_call g (h__law_draw.mono (Nat.le_trans (show 1 ≤ 3 by decide) hj)) (da_cons (de_var 0) (da_cons (c_len nb.len (de_var 1)) da_nil))))
    (db_one (ds_ret (de_plus (de_plus (de_slice (de_var 1) do_none (do_some (de_var 2))) (de_tup (da_cons (de_call g h_rec (da_cons (de_var 0) (da_cons (de_ix (de_var 1) (de_var 2)) da_nil))) da_nil))) (de_slice (de_var 1) (do_some (de_plus (de_var 2) de_int)) do_none))))) db_nil)
    (db_cons (ds_if (dt_val (de_isi (n := "tuple") (by decide) nb.isinstance nb.tuple bt_tuple (de_var 1))) (db_cons (s_set g.q (de_lst (da_cons (c_list nb.list (de_var 1)) (da_cons (de_slice (de_var 1) do_none (do_some (de_neg de_int))) (da_cons (de_plus (de_var 1) (de_slice (de_var 1) (do_some (de_neg de_int)) do_none)) (da_cons (de_slice (de_var 1) (do_some de_int) do_none) (da_cons (de_plus (de_var 1) (de_tup (da_cons de_int da_nil))) (da_cons (de_tup (da_cons (de_var 1) da_nil)) (da_cons (de_rev (de_var 1)) (da_cons (de_tup da_nil) (da_cons de_non da_nil)))))))))))
    (db_one (ds_ret (de_call g (h__law_pick.mono (Nat.le_trans (show 2 ≤ 3 by decide) hj)) (da_cons (de_var 0) (da_cons (de_plus (de_var 3) (de_lst (da_cons (de_call g (h__law_other.mono (Nat.le_trans (show 3 ≤ 3 by decide) hj)) (da_cons (de_var 0) da_nil)) da_nil))) da_nil)))))) db_nil)
    (db_cons (ds_if (dt_w (dw_and (dt_val (de_isi (n := "int") (by decide) nb.isinstance nb.int bt_int (de_var 1))) (dw_and1 (dt_not (dt_val (de_isi (n := "bool") (by decide) nb.isinstance nb.bool bt_bool (de_var 1))))))) (db_cons (s_set g.q (de_lst (da_cons (de_plus (de_var 1) de_int) (da_cons (de_sub (de_var 1) de_int) (da_cons (de_sub de_int (de_var 1)) (da_cons (de_times de_int (de_var 1)) (da_cons (c_str nb.str (de_var 1)) (da_cons (de_eq g.q (de_var 1) de_int) (da_cons de_non (da_cons (de_tup (da_cons (de_var 1) da_nil)) (da_cons (de_lst (da_cons (de_var 1) da_nil)) (da_cons de_int da_nil))))))))))))
    (db_one (ds_ret (de_call g (h__law_pick.mono (Nat.le_trans (show 2 ≤ 3 by decide) hj)) (da_cons (de_var 0) (da_cons (de_plus (de_var 3) (de_lst (da_cons (de_call g (h__law_other.mono (Nat.le_trans (show 3 ≤ 3 by decide) hj)) (da_cons (de_var 0) da_nil)) da_nil))) da_nil)))))) db_nil)
    (db_one (ds_ret (de_call g (h__law_other.mono (Nat.le_trans (show 3 ≤ 3 by decide) hj)) (da_cons (de_var 0) da_nil)))))))
theorem ok__law_bent (nb : NB mg) (h__law_draw : FnG P w K mg base 1 (Str.ofString "_law_draw") f__law_draw) (h__law_pick : FnG P w K mg base 2 (Str.ofString "_law_pick") f__law_pick) (h__law_other : FnG P w K mg base 3 (Str.ofString "_law_other") f__law_other) {f : Addr} {fd : FuncData} (F : Fun K (Str.ofString "_law_bent") (Str.ofString "_law_bent") st__law_bent f fd) (hm : mg (Str.ofString "_law_bent") = some (.ref f)) : FnG P w K mg base 12 (Str.ofString "_law_bent") (f__law_bent 8) := by
  have h : ∀ n, FnG P w K mg base (4 + n) (Str.ofString "_law_bent") (f__law_bent n) := fun n => by
    induction n with
    | zero => exact fn_none F hm
    | succ n ih => exact ok__law_bent_r (j := 4 + n) (by omega) nb h__law_draw h__law_pick h__law_other ih F hm
  exact h 8
/-! ### _law_bad -/
abbrev st__law_bad : Stmt := topS 42
abbrev n__law_bad : List Str := [(Str.ofString "stream"), (Str.ofString "is_good"), (Str.ofString "value"), (Str.ofString "turn")]
theorem sc__law_bad : FnScope n__law_bad [(Str.ofString "stream"), (Str.ofString "is_good")] (defScope st__law_bad) := ⟨rfl, rfl, rfl, by decide +kernel, rfl, by decide +kernel, by decide +kernel⟩
noncomputable def m__law_bad : MPr := fun p c q ee =>
    (sSeq (sSet 2 (eCall f__law_other (esCons (eVar 0) esNil)))
    (sSeq (sFor (wRng1 (eLit (.int 40))) (gVar 3) (sIf (tVal (ePr p c q 1 ee (esCons (eVar 2) esNil))) (sSet 2 (eCall f__law_other (esCons (eVar 0) esNil))) sNil))
    (sRet (eIf (tNt (tVal (ePr p c q 1 ee (esCons (eVar 2) esNil)))) (eVar 2) (eLit .none)))))
noncomputable def g__law_bad : Ex → SV → Sto → Option FR := runP 2 m__law_bad
theorem ok__law_bad (nb : NB mg) (h__law_other : FnG P w K mg base 3 (Str.ofString "_law_other") f__law_other) {f : Addr} {fd : FuncData} (F : Fun K (Str.ofString "_law_bad") (Str.ofString "_law_bad") st__law_bad f fd) (hm : mg (Str.ofString "_law_bad") = some (.ref f)) : ∀ k, 4 ≤ k → Nonempty (FnP P w K mg base k (Str.ofString "_law_bad") g__law_bad) := fun k hk =>
  fnP_def F hm sc__law_bad rfl rfl (by first | exact Or.inl rfl | exact Or.inr (Or.inl rfl) | exact Or.inr (Or.inr rfl)) (fun _ _ _ _ _ _ s us _ hl => .of_eq (match us, hl with | [_, _], _ => rfl)) fun cdv A stack s H p c q ee g act =>
    (db_cons (s_set g.q (de_call g (h__law_other.mono (Nat.le_trans (show 3 ≤ 4 by decide) hk)) (da_cons (de_var 0) da_nil)))
    (db_cons (ds_for g.po g.calm (di_rng1 nb.range de_int) (dg_var g.nd) (db_one (ds_if (dt_val (act _ _ _ _ _ (da_cons (de_var 2) da_nil) rfl rfl)) (db_one (s_set g.q (de_call g (h__law_other.mono (Nat.le_trans (show 3 ≤ 4 by decide) hk)) (da_cons (de_var 0) da_nil)))) db_nil)))
    (db_one (ds_ret (de_if (dt_not (dt_val (act _ _ _ _ _ (da_cons (de_var 2) da_nil) rfl rfl))) (de_var 2) de_non)))))
/-! ### _law_bad_width -/
abbrev st__law_bad_width : Stmt := topS 43
abbrev n__law_bad_width : List Str := [(Str.ofString "stream")]
theorem sc__law_bad_width : FnScope n__law_bad_width [(Str.ofString "stream")] (defScope st__law_bad_width) := ⟨rfl, rfl, rfl, by decide +kernel, rfl, by decide +kernel, by decide +kernel⟩
noncomputable def m__law_bad_width (tp : Nat → Addr) : Sm :=
    (sRet (eHandP 0 (lamQ (Str.ofString "_law_bad_width")) (tp 0) g__law_bad (eAnd (eCall f__law_is_word (esCons (eLit (.int 5)) (esCons (eVar 0) esNil))) (eChain pLe pLe (eLit (.int 1)) (eVar 0) (eLit (.int 16)))) (eVar 0)))
noncomputable def f__law_bad_width (tp : Nat → Addr) : Fn := fun args S => if args.length = 1 then fnRun 0 (m__law_bad_width tp ) args S else none
theorem ok__law_bad_width {tp : Nat → Addr} (nb : NB mg) (h__law_is_word : FnG P w K mg base 1 (Str.ofString "_law_is_word") f__law_is_word) (h__law_bad : ∀ k, 4 ≤ k → Nonempty (FnP P w K mg base k (Str.ofString "_law_bad") g__law_bad)) {f : Addr} {fd : FuncData} (F : Fun K (Str.ofString "_law_bad_width") (Str.ofString "_law_bad_width") st__law_bad_width f fd) (hm : mg (Str.ofString "_law_bad_width") = some (.ref f)) {c : Addr} (hc : fd.code = .ref c) (tb : LamX.TabB base mg c (tp 0)) : FnG P w K mg base 6 (Str.ofString "_law_bad_width") (f__law_bad_width tp) :=
  fn_defC (m := m__law_bad_width tp ) F hm hc sc__law_bad_width rfl (fun _ _ _ _ _ _ us hl => match us, hl with | [_], _ => rfl) fun A outer s H E g =>
    (db_one (ds_ret (de_handedP (i := 0) (y := (Str.ofString "value")) g (Classical.choice (h__law_bad _ (by decide))) tb rfl (lamP_by (by decide +kernel)) rfl rfl (fun _ _ _ _ _ => rfl) (de_var 0) (fun A outer s H f c2 gl => (de_and (de_call gl (h__law_is_word.mono (by decide)) (da_cons de_int (da_cons (de_var 0) da_nil))) (de_one (de_chLeLe de_int (de_var 0) de_int)))))))
/-! ### _law_bad_size -/
abbrev st__law_bad_size : Stmt := topS 44
abbrev n__law_bad_size : List Str := [(Str.ofString "stream")]
theorem sc__law_bad_size : FnScope n__law_bad_size [(Str.ofString "stream")] (defScope st__law_bad_size) := ⟨rfl, rfl, rfl, by decide +kernel, rfl, by decide +kernel, by decide +kernel⟩
noncomputable def m__law_bad_size (tp : Nat → Addr) : Sm :=
    (sRet (eHandP 1 (lamQ (Str.ofString "_law_bad_size")) (tp 1) g__law_bad (eAnd (eCall f__law_is_word (esCons (eLit (.int 6)) (esCons (eVar 0) esNil))) (eChain pLe pLe (eLit (.int 1)) (eVar 0) (eLit (.int 40)))) (eVar 0)))
noncomputable def f__law_bad_size (tp : Nat → Addr) : Fn := fun args S => if args.length = 1 then fnRun 0 (m__law_bad_size tp ) args S else none
theorem ok__law_bad_size {tp : Nat → Addr} (nb : NB mg) (h__law_is_word : FnG P w K mg base 1 (Str.ofString "_law_is_word") f__law_is_word) (h__law_bad : ∀ k, 4 ≤ k → Nonempty (FnP P w K mg base k (Str.ofString "_law_bad") g__law_bad)) {f : Addr} {fd : FuncData} (F : Fun K (Str.ofString "_law_bad_size") (Str.ofString "_law_bad_size") st__law_bad_size f fd) (hm : mg (Str.ofString "_law_bad_size") = some (.ref f)) {c : Addr} (hc : fd.code = .ref c) (tb : LamX.TabB base mg c (tp 1)) : FnG P w K mg base 6 (Str.ofString "_law_bad_size") (f__law_bad_size tp) :=
  fn_defC (m := m__law_bad_size tp ) F hm hc sc__law_bad_size rfl (fun _ _ _ _ _ _ us hl => match us, hl with | [_], _ => rfl) fun A outer s H E g =>
    (db_one (ds_ret (de_handedP (i := 1) (y := (Str.ofString "value")) g (Classical.choice (h__law_bad _ (by decide))) tb rfl (lamP_by (by decide +kernel)) rfl rfl (fun _ _ _ _ _ => rfl) (de_var 0) (fun A outer s H f c2 gl => (de_and (de_call gl (h__law_is_word.mono (by decide)) (da_cons de_int (da_cons (de_var 0) da_nil))) (de_one (de_chLeLe de_int (de_var 0) de_int)))))))
/-! ### _law_word -/
abbrev st__law_word : Stmt := topS 45
abbrev n__law_word : List Str := [(Str.ofString "stream"), (Str.ofString "width")]
theorem sc__law_word : FnScope n__law_word [(Str.ofString "stream"), (Str.ofString "width")] (defScope st__law_word) := ⟨rfl, rfl, rfl, by decide +kernel, rfl, by decide +kernel, by decide +kernel⟩
noncomputable def m__law_word : Sm :=
    (sRet (eBin pIx (eCall f__law_row (esCons (eVar 0) (esCons (eVar 1) (esCons (eLit (.int 1)) esNil)))) (eLit (.int 0))))
noncomputable def f__law_word : Fn := fun args S => if args.length = 2 then fnRun 0 (m__law_word ) args S else none
theorem ok__law_word (nb : NB mg) (h__law_row : FnG P w K mg base 2 (Str.ofString "_law_row") f__law_row) {f : Addr} {fd : FuncData} (F : Fun K (Str.ofString "_law_word") (Str.ofString "_law_word") st__law_word f fd) (hm : mg (Str.ofString "_law_word") = some (.ref f)) : FnG P w K mg base 3 (Str.ofString "_law_word") f__law_word :=
  fn_def (m := m__law_word ) F hm sc__law_word rfl (fun _ _ _ _ _ _ us hl => match us, hl with | [_, _], _ => rfl) fun cdv A outer s H E g =>
    (db_one (ds_ret (de_ix (de_call g (h__law_row.mono (by decide)) (da_cons (de_var 0) (da_cons (de_var 1) (da_cons de_int da_nil)))) de_int)))
/-! ### _law_refusal -/
abbrev st__law_refusal : Stmt := topS 46
abbrev n__law_refusal : List Str := [(Str.ofString "call"), (Str.ofString "e"), (Str.ofString "kinds")]
theorem sc__law_refusal : FnScope n__law_refusal [(Str.ofString "call")] (defScope st__law_refusal) := ⟨rfl, rfl, rfl, by decide +kernel, rfl, by decide +kernel, by decide +kernel⟩
noncomputable def m__law_refusal : MTh := fun p c q tl =>
    (sSeq (sTry 3 (sTh p c q tl 0) [⟨1, fun z => List.lookup z so_l_InvalidNumber, fun a cls d => (sRet (eIf (tNt (tVal (eIsX a cls d (fun z => List.lookup z so_l_WordsError) (eVar 1)))) (eBin pPlus (eLit (.str (Str.ofString "number "))) (eCa pRepr (esCons (eFld a cls d (Str.ofString "value") (fun z => z == (Str.ofString "InvalidNumber")) (eVar 1)) esNil))) (eLit (.str (Str.ofString "other")))))⟩, ⟨1, fun z => List.lookup z so_l_WordsError, fun a cls d => (sSeq (sSet 2 (eCa dispL (esCons (eIsX a cls d (fun z => List.lookup z so_l_InvalidWidth) (eVar 1)) (esCons (eIsX a cls d (fun z => List.lookup z so_l_InvalidVector) (eVar 1)) (esCons (eIsX a cls d (fun z => List.lookup z so_l_InvalidBasis) (eVar 1)) esNil)))))
    (sRet (eIf (tVal (eBin pEq (eM2 pCnt (eVar 2) (eLit (.bool true))) (eLit (.int 1)))) (eBin pIx (eCa dispL (esCons (eLit (.str (Str.ofString "width"))) (esCons (eLit (.str (Str.ofString "vector"))) (esCons (eLit (.str (Str.ofString "basis"))) esNil)))) (eM2 pIdx (eVar 2) (eLit (.bool true)))) (eLit (.str (Str.ofString "other"))))))⟩])
    (sRet (eLit (.str (Str.ofString "returned")))))
noncomputable def g__law_refusal : Th → Sto → Option FR := runT 2 m__law_refusal
theorem ok__law_refusal (nb : NB mg) (kl_WordsError : Kl K mg (Str.ofString "WordsError")) (kl_InvalidBasis : Kl K mg (Str.ofString "InvalidBasis")) (kl_InvalidVector : Kl K mg (Str.ofString "InvalidVector")) (kl_InvalidWidth : Kl K mg (Str.ofString "InvalidWidth")) (kl_InvalidNumber : Kl K mg (Str.ofString "InvalidNumber")) (so_WordsError : SubsOk K (.ref kl_WordsError.C) so_l_WordsError) (so_InvalidBasis : SubsOk K (.ref kl_InvalidBasis.C) so_l_InvalidBasis) (so_InvalidVector : SubsOk K (.ref kl_InvalidVector.C) so_l_InvalidVector) (so_InvalidWidth : SubsOk K (.ref kl_InvalidWidth.C) so_l_InvalidWidth) (so_InvalidNumber : SubsOk K (.ref kl_InvalidNumber.C) so_l_InvalidNumber) (no_InvalidNumber : PySem.W.findIn K (.ref kl_InvalidNumber.C) (Str.ofString "value") = some none) {f : Addr} {fd : FuncData} (F : Fun K (Str.ofString "_law_refusal") (Str.ofString "_law_refusal") st__law_refusal f fd) (hm : mg (Str.ofString "_law_refusal") = some (.ref f)) : ∀ k, Nonempty (FnH P w K mg base k (Str.ofString "_law_refusal") g__law_refusal) := fun k =>
  fnH_def F hm sc__law_refusal rfl rfl (by first | exact Or.inl rfl | exact Or.inr (Or.inl rfl) | exact Or.inr (Or.inr rfl)) (fun _ _ _ _ _ _ s us _ hl => .of_eq (match us, hl with | [_], _ => rfl)) fun cdv A stack s H p c q tl g act =>
    (db_cons (ds_try g rfl rfl (fun W2 pn xe g2 => (db_one (ds_thunk act g2.tk))) (clsD_cons kl_InvalidNumber so_InvalidNumber rfl (by decide) rfl rfl (fun a oe cls d pn hz hf => (db_one (ds_ret (de_if (dt_not (dt_val (de_isK hz hf nb.isinstance (de_var 1) kl_WordsError so_WordsError))) (de_plus de_str (c_repr (g.suite a ((a, oe) :: pn)).q nb.repr (de_fldK hz hf kl_InvalidNumber no_InvalidNumber (de_var 1)))) de_str)))) (clsD_cons kl_WordsError so_WordsError rfl (by decide) rfl rfl (fun a oe cls d pn hz hf => (db_cons (s_set (g.suite a ((a, oe) :: pn)).q (de_lst (da_cons (de_isK hz hf nb.isinstance (de_var 1) kl_InvalidWidth so_InvalidWidth) (da_cons (de_isK hz hf nb.isinstance (de_var 1) kl_InvalidVector so_InvalidVector) (da_cons (de_isK hz hf nb.isinstance (de_var 1) kl_InvalidBasis so_InvalidBasis) da_nil)))))
    (db_one (ds_ret (de_if (dt_eq (g.suite a ((a, oe) :: pn)).q (de_lcount (de_var 2) de_bl) de_int) (de_ix (de_lst (da_cons de_str (da_cons de_str (da_cons de_str da_nil)))) (de_lindex (de_var 2) de_bl)) de_str))))) .nil)))
    (db_one (ds_ret de_str)))
/-! ### _law_word_right -/
abbrev st__law_word_right : Stmt := topS 47
abbrev n__law_word_right : List Str := [(Str.ofString "width"), (Str.ofString "word"), (Str.ofString "level_v"), (Str.ofString "found")]
theorem sc__law_word_right : FnScope n__law_word_right [(Str.ofString "width"), (Str.ofString "word")] (defScope st__law_word_right) := ⟨rfl, rfl, rfl, by decide +kernel, rfl, by decide +kernel, by decide +kernel⟩
noncomputable def m__law_word_right (tp : Nat → Addr) : Sm :=
    (sSeq (sSet 2 (eLit (.int 0)))
    (sSeq (whGo (tAd (tVal (eBin pLt (eVar 2) (eVar 0))) (tVal (eBin pEq (eBin pMod (eVar 1) (eBin pShl (eLit (.int 2)) (eVar 2))) (eLit (.int 0))))) (sSet 2 (eBin pPlus (eVar 2) (eLit (.int 1)))) 1000)
    (sSeq (sIf (tVal (eBin pNe (eCa pRepr (esCons (eCall f_word_level (esCons (eVar 0) (esCons (eVar 1) esNil))) esNil)) (eCa pRepr (esCons (eVar 2) esNil)))) (sRet (eLit (.bool false))) sNil)
    (sSeq (sIf (tVal (eBin pEq (eBin pMod (eVar 1) (eLit (.int 2))) (eLit (.int 0)))) (sRet (eBin pEq (eHand 2 (lamQ (Str.ofString "_law_word_right")) (tp 2) g__law_refusal (eCall f_word_inverse (esCons (eVar 0) (esCons (eVar 1) esNil)))) (eBin pPlus (eLit (.str (Str.ofString "number "))) (eCa pRepr (esCons (eVar 1) esNil))))) sNil)
    (sSeq (sSet 3 (eCall f_word_inverse (esCons (eVar 0) (esCons (eVar 1) esNil))))
    (sRet (eAnd (eCall f__law_is_word (esCons (eVar 0) (esCons (eVar 3) esNil))) (eBin pEq (eBin pMod (eBin pTimes (eVar 3) (eVar 1)) (eBin pShl (eLit (.int 1)) (eVar 0))) (eLit (.int 1))))))))))
noncomputable def f__law_word_right (tp : Nat → Addr) : Fn := fun args S => if args.length = 2 then fnRun 2 (m__law_word_right tp ) args S else none
theorem ok__law_word_right {tp : Nat → Addr} (nb : NB mg) (h_word_level : FnG P w K mg base 4 (Str.ofString "word_level") f_word_level) (h_word_inverse : FnG P w K mg base 4 (Str.ofString "word_inverse") f_word_inverse) (h__law_is_word : FnG P w K mg base 1 (Str.ofString "_law_is_word") f__law_is_word) (h__law_refusal : ∀ k, Nonempty (FnH P w K mg base k (Str.ofString "_law_refusal") g__law_refusal)) {f : Addr} {fd : FuncData} (F : Fun K (Str.ofString "_law_word_right") (Str.ofString "_law_word_right") st__law_word_right f fd) (hm : mg (Str.ofString "_law_word_right") = some (.ref f)) {c : Addr} (hc : fd.code = .ref c) (tb : LamX.TabB base mg c (tp 2)) : FnG P w K mg base 7 (Str.ofString "_law_word_right") (f__law_word_right tp) :=
  fn_defC (m := m__law_word_right tp ) F hm hc sc__law_word_right rfl (fun _ _ _ _ _ _ us hl => match us, hl with | [_, _], _ => rfl) fun A outer s H E g =>
    (db_cons (s_set g.q de_int)
    (db_cons (ds_while 1000 g.po (dt_w (dw_and (dt_lt (de_var 2) (de_var 0)) (dw_and1 (dt_eq g.q (de_mod (de_var 1) (de_shl de_int (de_var 2))) de_int)))) (db_one (s_set g.q (de_plus (de_var 2) de_int))))
    (db_cons (ds_if (dt_ne g.q (c_repr g.q nb.repr (de_call g (h_word_level.mono (by decide)) (da_cons (de_var 0) (da_cons (de_var 1) da_nil)))) (c_repr g.q nb.repr (de_var 2))) (db_one (ds_ret de_bl)) db_nil)
    (db_cons (ds_if (dt_eq g.q (de_mod (de_var 1) de_int) de_int) (db_one (ds_ret (de_eq g.q (de_handed (i := 2) g (Classical.choice (h__law_refusal _)) tb rfl (LamX.lamS_by (sc := defScope st__law_word_right) (by decide +kernel)) rfl (fun _ _ _ _ _ => rfl) (fun A outer s H E f c2 hr hgd => (de_call (gd_lam g.nd hr hgd) (h_word_inverse.mono (by decide)) (da_cons (de_var 0) (da_cons (de_var 1) da_nil))))) (de_plus de_str (c_repr g.q nb.repr (de_var 1)))))) db_nil)
    (db_cons (s_set g.q (de_call g (h_word_inverse.mono (by decide)) (da_cons (de_var 0) (da_cons (de_var 1) da_nil))))
    (db_one (ds_ret (de_and (de_call g (h__law_is_word.mono (by decide)) (da_cons (de_var 0) (da_cons (de_var 3) da_nil))) (de_one (de_eq g.q (de_mod (de_times (de_var 3) (de_var 1)) (de_shl de_int (de_var 0))) de_int))))))))))
/-! ### _law_bad_word -/
abbrev st__law_bad_word : Stmt := topS 48
abbrev n__law_bad_word : List Str := [(Str.ofString "stream"), (Str.ofString "width")]
theorem sc__law_bad_word : FnScope n__law_bad_word [(Str.ofString "stream"), (Str.ofString "width")] (defScope st__law_bad_word) := ⟨rfl, rfl, rfl, by decide +kernel, rfl, by decide +kernel, by decide +kernel⟩
noncomputable def m__law_bad_word (tp : Nat → Addr) : Sm :=
    (sRet (eHandC 3 (lamQ (Str.ofString "_law_bad_word")) (tp 3) g__law_bad (eCall f__law_is_word (esCons (eVar 1) (esCons (eVar 2) esNil))) (eVar 0)))
noncomputable def f__law_bad_word (tp : Nat → Addr) : Fn := fun args S => if args.length = 2 then fnRun 0 (m__law_bad_word tp ) args S else none
theorem ok__law_bad_word {tp : Nat → Addr} (nb : NB mg) (h__law_is_word : FnG P w K mg base 1 (Str.ofString "_law_is_word") f__law_is_word) (h__law_bad : ∀ k, 4 ≤ k → Nonempty (FnP P w K mg base k (Str.ofString "_law_bad") g__law_bad)) {f : Addr} {fd : FuncData} (F : Fun K (Str.ofString "_law_bad_word") (Str.ofString "_law_bad_word") st__law_bad_word f fd) (hm : mg (Str.ofString "_law_bad_word") = some (.ref f)) {c : Addr} (hc : fd.code = .ref c) (tb : LamX.TabB base mg c (tp 3)) : FnG P w K mg base 6 (Str.ofString "_law_bad_word") (f__law_bad_word tp) :=
  fn_defC (m := m__law_bad_word tp ) F hm hc sc__law_bad_word rfl (fun _ _ _ _ _ _ us hl => match us, hl with | [_, _], _ => rfl) fun A outer s H E g =>
    (db_one (ds_ret (de_handedC (i := 3) (y := (Str.ofString "value")) g (Classical.choice (h__law_bad _ (by decide))) tb rfl (lamC_by (sc := defScope st__law_bad_word) (by decide +kernel)) (show (Str.ofString "value") ∉ n__law_bad_word by decide +kernel) rfl (fun _ _ _ _ _ _ => rfl) (de_var 0) (fun A outer s H f c2 gl => (de_call gl (h__law_is_word.mono (by decide)) (da_cons (de_var 1) (da_cons (de_var 2) da_nil)))))))
/-! ### _law_bad_vector -/
abbrev st__law_bad_vector : Stmt := topS 49
abbrev n__law_bad_vector : List Str := [(Str.ofString "stream"), (Str.ofString "width"), (Str.ofString "size"), (Str.ofString "vector"), (Str.ofString "value"), (Str.ofString "turn")]
theorem sc__law_bad_vector : FnScope n__law_bad_vector [(Str.ofString "stream"), (Str.ofString "width"), (Str.ofString "size")] (defScope st__law_bad_vector) := ⟨rfl, rfl, rfl, by decide +kernel, rfl, by decide +kernel, by decide +kernel⟩
noncomputable def m__law_bad_vector : Sm :=
    (sSeq (sSet 3 (eCall f__law_row (esCons (eVar 0) (esCons (eVar 1) (esCons (eVar 2) esNil)))))
    (sSeq (sSet 4 (eCall (f__law_bent 8) (esCons (eVar 0) (esCons (eVar 3) esNil))))
    (sSeq (sFor (wRng1 (eLit (.int 20))) (gVar 5) (sIf (tVal (eCall f__law_is_vector (esCons (eVar 1) (esCons (eVar 2) (esCons (eVar 4) esNil))))) (sSet 4 (eCall (f__law_bent 8) (esCons (eVar 0) (esCons (eVar 3) esNil)))) sNil))
    (sRet (eIf (tNt (tVal (eCall f__law_is_vector (esCons (eVar 1) (esCons (eVar 2) (esCons (eVar 4) esNil)))))) (eVar 4) (eCa pListOf (esCons (eVar 3) esNil)))))))
noncomputable def f__law_bad_vector : Fn := fun args S => if args.length = 3 then fnRun 3 (m__law_bad_vector ) args S else none
theorem ok__law_bad_vector (nb : NB mg) (h__law_row : FnG P w K mg base 2 (Str.ofString "_law_row") f__law_row) (h__law_is_vector : FnG P w K mg base 2 (Str.ofString "_law_is_vector") f__law_is_vector) (h__law_bent : FnG P w K mg base 12 (Str.ofString "_law_bent") (f__law_bent 8)) {f : Addr} {fd : FuncData} (F : Fun K (Str.ofString "_law_bad_vector") (Str.ofString "_law_bad_vector") st__law_bad_vector f fd) (hm : mg (Str.ofString "_law_bad_vector") = some (.ref f)) : FnG P w K mg base 13 (Str.ofString "_law_bad_vector") f__law_bad_vector :=
  fn_def (m := m__law_bad_vector ) F hm sc__law_bad_vector rfl (fun _ _ _ _ _ _ us hl => match us, hl with | [_, _, _], _ => rfl) fun cdv A outer s H E g =>
    (db_cons (s_set g.q (de_call g (h__law_row.mono (by decide)) (da_cons (de_var 0) (da_cons (de_var 1) (da_cons (de_var 2) da_nil)))))
    (db_cons (s_set g.q (de_call g (h__law_bent.mono (by decide)) (da_cons (de_var 0) (da_cons (de_var 3) da_nil))))
    (db_cons (ds_for g.po g.calm (di_rng1 nb.range de_int) (dg_var g.nd) (db_one (ds_if (dt_val (de_call g (h__law_is_vector.mono (by decide)) (da_cons (de_var 1) (da_cons (de_var 2) (da_cons (de_var 4) da_nil))))) (db_one (s_set g.q (de_call g (h__law_bent.mono (by decide)) (da_cons (de_var 0) (da_cons (de_var 3) da_nil))))) db_nil)))
    (db_one (ds_ret (de_if (dt_not (dt_val (de_call g (h__law_is_vector.mono (by decide)) (da_cons (de_var 1) (da_cons (de_var 2) (da_cons (de_var 4) da_nil)))))) (de_var 4) (c_list nb.list (de_var 3))))))))
/-! ### _law_is_any -/
abbrev st__law_is_any : Stmt := topS 50
abbrev n__law_is_any : List Str := [(Str.ofString "width"), (Str.ofString "value")]
theorem sc__law_is_any : FnScope n__law_is_any [(Str.ofString "width"), (Str.ofString "value")] (defScope st__law_is_any) := ⟨rfl, rfl, rfl, by decide +kernel, rfl, by decide +kernel, by decide +kernel⟩
noncomputable def m__law_is_any : Sm :=
    (sRet (eAnd (eIsi "tuple" (eVar 1)) (eAnd (eChain pLe pLe (eLit (.int 1)) (eCa pLen (esCons (eVar 1) esNil)) (eLit (.int 40))) (eCall f__law_is_vector (esCons (eVar 0) (esCons (eCa pLen (esCons (eVar 1) esNil)) (esCons (eVar 1) esNil)))))))
noncomputable def f__law_is_any : Fn := fun args S => if args.length = 2 then fnRun 0 (m__law_is_any ) args S else none
theorem ok__law_is_any (nb : NB mg) (h__law_is_vector : FnG P w K mg base 2 (Str.ofString "_law_is_vector") f__law_is_vector) {f : Addr} {fd : FuncData} (F : Fun K (Str.ofString "_law_is_any") (Str.ofString "_law_is_any") st__law_is_any f fd) (hm : mg (Str.ofString "_law_is_any") = some (.ref f)) : FnG P w K mg base 3 (Str.ofString "_law_is_any") f__law_is_any :=
  fn_def (m := m__law_is_any ) F hm sc__law_is_any rfl (fun _ _ _ _ _ _ us hl => match us, hl with | [_, _], _ => rfl) fun cdv A outer s H E g =>
    (db_one (ds_ret (de_and (de_isi (n := "tuple") (by decide) nb.isinstance nb.tuple bt_tuple (de_var 1)) (de_and (de_chLeLe de_int (c_len nb.len (de_var 1)) de_int) (de_one (de_call g (h__law_is_vector.mono (by decide)) (da_cons (de_var 0) (da_cons (c_len nb.len (de_var 1)) (da_cons (de_var 1) da_nil)))))))))
/-! ### _law_errors_right -/
abbrev st__law_errors_right : Stmt := topS 51
abbrev n__law_errors_right : List Str := [(Str.ofString "stream"), (Str.ofString "width"), (Str.ofString "size"), (Str.ofString "wide"), (Str.ofString "many"), (Str.ofString "word"), (Str.ofString "good"), (Str.ofString "odd"), (Str.ofString "free"), (Str.ofString "found"), (Str.ofString "words"), (Str.ofString "due")]
theorem sc__law_errors_right : FnScope n__law_errors_right [(Str.ofString "stream"), (Str.ofString "width"), (Str.ofString "size")] (defScope st__law_errors_right) := ⟨rfl, rfl, rfl, by decide +kernel, rfl, by decide +kernel, by decide +kernel⟩
noncomputable def m__law_errors_right (tp : Nat → Addr) : Sm :=
    (sSeq (sAsg (gPair (gVar 3) (gVar 4)) (eCa dispT (esCons (eCall (f__law_bad_width tp) (esCons (eVar 0) esNil)) (esCons (eCall (f__law_bad_size tp) (esCons (eVar 0) esNil)) esNil))))
    (sSeq (sAsg (gPair (gVar 5) (gVar 6)) (eCa dispT (esCons (eCall (f__law_bad_word tp) (esCons (eVar 0) (esCons (eVar 1) esNil))) (esCons (eCall f__law_row (esCons (eVar 0) (esCons (eVar 1) (esCons (eVar 2) esNil)))) esNil))))
    (sSeq (sSet 7 (eCall f__law_bad_vector (esCons (eVar 0) (esCons (eVar 1) (esCons (eVar 2) esNil)))))
    (sSeq (sSet 8 (eIf (tNt (tVal (eCall f__law_is_any (esCons (eVar 1) (esCons (eVar 7) esNil))))) (eVar 7) (eCa pListOf (esCons (eVar 6) esNil))))
    (sSeq (sNew 9 (nLst (esCons (eHand 4 (lamQ (Str.ofString "_law_errors_right")) (tp 4) g__law_refusal (eCall f_vector_sum (esCons (eVar 3) (esCons (eVar 4) (esCons (eVar 7) esNil))))) esNil)))
    (sSeq (sDo (eApp (eVar 9) (eHand 4 (lamQ (Str.ofString "_law_errors_right")) (tp 4) g__law_refusal (eCall f_vector_sum (esCons (eVar 1) (esCons (eVar 4) (esCons (eVar 7) esNil)))))))
    (sSeq (sDo (eApp (eVar 9) (eHand 4 (lamQ (Str.ofString "_law_errors_right")) (tp 4) g__law_refusal (eCall f_vector_sum (esCons (eVar 1) (esCons (eVar 2) (esCons (eVar 7) esNil)))))))
    (sSeq (sDo (eApp (eVar 9) (eHand 4 (lamQ (Str.ofString "_law_errors_right")) (tp 4) g__law_refusal (eCall f_vector_sum (esCons (eVar 1) (esCons (eVar 2) (esCons (eVar 6) (esCons (eVar 7) esNil))))))))
    (sSeq (sDo (eApp (eVar 9) (eHand 4 (lamQ (Str.ofString "_law_errors_right")) (tp 4) g__law_refusal (eCall f_vector_multiple (esCons (eVar 3) (esCons (eVar 8) (esCons (eVar 5) esNil)))))))
    (sSeq (sDo (eApp (eVar 9) (eHand 4 (lamQ (Str.ofString "_law_errors_right")) (tp 4) g__law_refusal (eCall f_vector_multiple (esCons (eVar 1) (esCons (eVar 8) (esCons (eVar 5) esNil)))))))
    (sSeq (sDo (eApp (eVar 9) (eHand 4 (lamQ (Str.ofString "_law_errors_right")) (tp 4) g__law_refusal (eCall f_vector_multiple (esCons (eVar 1) (esCons (eVar 6) (esCons (eVar 5) esNil)))))))
    (sSeq (sDo (eApp (eVar 9) (eHand 4 (lamQ (Str.ofString "_law_errors_right")) (tp 4) g__law_refusal (eCall f_dot_product (esCons (eVar 3) (esCons (eVar 8) (esCons (eLit (.int 0)) esNil)))))))
    (sSeq (sDo (eApp (eVar 9) (eHand 4 (lamQ (Str.ofString "_law_errors_right")) (tp 4) g__law_refusal (eCall f_dot_product (esCons (eVar 1) (esCons (eVar 8) (esCons (eVar 6) esNil)))))))
    (sSeq (sDo (eApp (eVar 9) (eHand 4 (lamQ (Str.ofString "_law_errors_right")) (tp 4) g__law_refusal (eCall f_dot_product (esCons (eVar 1) (esCons (eVar 6) (esCons (eVar 7) esNil)))))))
    (sSeq (sDo (eApp (eVar 9) (eHand 4 (lamQ (Str.ofString "_law_errors_right")) (tp 4) g__law_refusal (eCall f_word_level (esCons (eVar 3) (esCons (eVar 5) esNil))))))
    (sSeq (sDo (eApp (eVar 9) (eHand 4 (lamQ (Str.ofString "_law_errors_right")) (tp 4) g__law_refusal (eCall f_word_level (esCons (eVar 1) (esCons (eVar 5) esNil))))))
    (sSeq (sDo (eApp (eVar 9) (eHand 4 (lamQ (Str.ofString "_law_errors_right")) (tp 4) g__law_refusal (eCall f_word_inverse (esCons (eVar 3) (esCons (eVar 5) esNil))))))
    (sSeq (sDo (eApp (eVar 9) (eHand 4 (lamQ (Str.ofString "_law_errors_right")) (tp 4) g__law_refusal (eCall f_word_inverse (esCons (eVar 1) (esCons (eVar 5) esNil))))))
    (sSeq (sSet 10 (eCa dispL (esCons (eBin pPlus (eLit (.str (Str.ofString "number "))) (eCa pRepr (esCons (eVar 4) esNil))) (esCons (eBin pPlus (eLit (.str (Str.ofString "number "))) (eCa pRepr (esCons (eVar 5) esNil))) esNil))))
    (sSeq (sSet 11 (eCa dispL (esCons (eLit (.str (Str.ofString "width"))) (esCons (eBin pIx (eVar 10) (eLit (.int 0))) (esCons (eLit (.str (Str.ofString "vector"))) (esCons (eLit (.str (Str.ofString "vector"))) (esCons (eLit (.str (Str.ofString "width"))) (esCons (eLit (.str (Str.ofString "vector"))) (esCons (eBin pIx (eVar 10) (eLit (.int 1))) (esCons (eLit (.str (Str.ofString "width"))) (esCons (eLit (.str (Str.ofString "vector"))) (esCons (eLit (.str (Str.ofString "vector"))) esNil))))))))))))
    (sRet (eBin pEq (eVar 9) (eBin pPlus (eVar 11) (eBin pTimes (eCa dispL (esCons (eLit (.str (Str.ofString "width"))) (esCons (eBin pIx (eVar 10) (eLit (.int 1))) esNil))) (eLit (.int 2))))))))))))))))))))))))))
noncomputable def f__law_errors_right (tp : Nat → Addr) : Fn := fun args S => if args.length = 3 then fnRun 9 (m__law_errors_right tp ) args S else none
theorem ok__law_errors_right {tp : Nat → Addr} (nb : NB mg) (h_vector_sum : FnG P w K mg base 7 (Str.ofString "vector_sum") f_vector_sum) (h_vector_multiple : FnG P w K mg base 7 (Str.ofString "vector_multiple") f_vector_multiple) (h_dot_product : FnG P w K mg base 7 (Str.ofString "dot_product") f_dot_product) (h_word_level : FnG P w K mg base 4 (Str.ofString "word_level") f_word_level) (h_word_inverse : FnG P w K mg base 4 (Str.ofString "word_inverse") f_word_inverse) (h__law_row : FnG P w K mg base 2 (Str.ofString "_law_row") f__law_row) (h__law_bad_width : FnG P w K mg base 6 (Str.ofString "_law_bad_width") (f__law_bad_width tp)) (h__law_bad_size : FnG P w K mg base 6 (Str.ofString "_law_bad_size") (f__law_bad_size tp)) (h__law_refusal : ∀ k, Nonempty (FnH P w K mg base k (Str.ofString "_law_refusal") g__law_refusal)) (h__law_bad_word : FnG P w K mg base 6 (Str.ofString "_law_bad_word") (f__law_bad_word tp)) (h__law_bad_vector : FnG P w K mg base 13 (Str.ofString "_law_bad_vector") f__law_bad_vector) (h__law_is_any : FnG P w K mg base 3 (Str.ofString "_law_is_any") f__law_is_any) {f : Addr} {fd : FuncData} (F : Fun K (Str.ofString "_law_errors_right") (Str.ofString "_law_errors_right") st__law_errors_right f fd) (hm : mg (Str.ofString "_law_errors_right") = some (.ref f)) {c : Addr} (hc : fd.code = .ref c) (tb : LamX.TabB base mg c (tp 4)) : FnG P w K mg base 14 (Str.ofString "_law_errors_right") (f__law_errors_right tp) :=
  fn_defC (m := m__law_errors_right tp ) F hm hc sc__law_errors_right rfl (fun _ _ _ _ _ _ us hl => match us, hl with | [_, _, _], _ => rfl) fun A outer s H E g =>
    (db_cons (ds_asg (de_tup (da_cons (de_call g (h__law_bad_width.mono (by decide)) (da_cons (de_var 0) da_nil)) (da_cons (de_call g (h__law_bad_size.mono (by decide)) (da_cons (de_var 0) da_nil)) da_nil))) (dg_pair g.calm (dg_var g.nd) (dg_var g.nd)))
    (db_cons (ds_asg (de_tup (da_cons (de_call g (h__law_bad_word.mono (by decide)) (da_cons (de_var 0) (da_cons (de_var 1) da_nil))) (da_cons (de_call g (h__law_row.mono (by decide)) (da_cons (de_var 0) (da_cons (de_var 1) (da_cons (de_var 2) da_nil)))) da_nil))) (dg_pair g.calm (dg_var g.nd) (dg_var g.nd)))
    (db_cons (s_set g.q (de_call g (h__law_bad_vector.mono (by decide)) (da_cons (de_var 0) (da_cons (de_var 1) (da_cons (de_var 2) da_nil)))))
    (db_cons (s_set g.q (de_if (dt_not (dt_val (de_call g (h__law_is_any.mono (by decide)) (da_cons (de_var 1) (da_cons (de_var 7) da_nil))))) (de_var 7) (c_list nb.list (de_var 6))))
    (db_cons (s_new g.q (dn_lst (da_cons (de_handed (i := 4) g (Classical.choice (h__law_refusal _)) tb rfl (LamX.lamS_by (sc := defScope st__law_errors_right) (by decide +kernel)) rfl (fun _ _ _ _ _ => rfl) (fun A outer s H E f c2 hr hgd => (de_call (gd_lam g.nd hr hgd) (h_vector_sum.mono (by decide)) (da_cons (de_var 3) (da_cons (de_var 4) (da_cons (de_var 7) da_nil)))))) da_nil)))
    (db_cons (ds_do (de_append (de_var 9) (de_handed (i := 4) g (Classical.choice (h__law_refusal _)) tb rfl (LamX.lamS_by (sc := defScope st__law_errors_right) (by decide +kernel)) rfl (fun _ _ _ _ _ => rfl) (fun A outer s H E f c2 hr hgd => (de_call (gd_lam g.nd hr hgd) (h_vector_sum.mono (by decide)) (da_cons (de_var 1) (da_cons (de_var 4) (da_cons (de_var 7) da_nil))))))))
    (db_cons (ds_do (de_append (de_var 9) (de_handed (i := 4) g (Classical.choice (h__law_refusal _)) tb rfl (LamX.lamS_by (sc := defScope st__law_errors_right) (by decide +kernel)) rfl (fun _ _ _ _ _ => rfl) (fun A outer s H E f c2 hr hgd => (de_call (gd_lam g.nd hr hgd) (h_vector_sum.mono (by decide)) (da_cons (de_var 1) (da_cons (de_var 2) (da_cons (de_var 7) da_nil))))))))
    (db_cons (ds_do (de_append (de_var 9) (de_handed (i := 4) g (Classical.choice (h__law_refusal _)) tb rfl (LamX.lamS_by (sc := defScope st__law_errors_right) (by decide +kernel)) rfl (fun _ _ _ _ _ => rfl) (fun A outer s H E f c2 hr hgd => (de_call (gd_lam g.nd hr hgd) (h_vector_sum.mono (by decide)) (da_cons (de_var 1) (da_cons (de_var 2) (da_cons (de_var 6) (da_cons (de_var 7) da_nil)))))))))
    (db_cons (ds_do (de_append (de_var 9) (de_handed (i := 4) g (Classical.choice (h__law_refusal _)) tb rfl (LamX.lamS_by (sc := defScope st__law_errors_right) (by decide +kernel)) rfl (fun _ _ _ _ _ => rfl) (fun A outer s H E f c2 hr hgd => (de_call (gd_lam g.nd hr hgd) (h_vector_multiple.mono (by decide)) (da_cons (de_var 3) (da_cons (de_var 8) (da_cons (de_var 5) da_nil))))))))
    (db_cons (ds_do (de_append (de_var 9) (de_handed (i := 4) g (Classical.choice (h__law_refusal _)) tb rfl (LamX.lamS_by (sc := defScope st__law_errors_right) (by decide +kernel)) rfl (fun _ _ _ _ _ => rfl) (fun A outer s H E f c2 hr hgd => (de_call (gd_lam g.nd hr hgd) (h_vector_multiple.mono (by decide)) (da_cons (de_var 1) (da_cons (de_var 8) (da_cons (de_var 5) da_nil))))))))
    (db_cons (ds_do (de_append (de_var 9) (de_handed (i := 4) g (Classical.choice (h__law_refusal _)) tb rfl (LamX.lamS_by (sc := defScope st__law_errors_right) (by decide +kernel)) rfl (fun _ _ _ _ _ => rfl) (fun A outer s H E f c2 hr hgd => (de_call (gd_lam g.nd hr hgd) (h_vector_multiple.mono (by decide)) (da_cons (de_var 1) (da_cons (de_var 6) (da_cons (de_var 5) da_nil))))))))
    (db_cons (ds_do (de_append (de_var 9) (de_handed (i := 4) g (Classical.choice (h__law_refusal _)) tb rfl (LamX.lamS_by (sc := defScope st__law_errors_right) (by decide +kernel)) rfl (fun _ _ _ _ _ => rfl) (fun A outer s H E f c2 hr hgd => (de_call (gd_lam g.nd hr hgd) (h_dot_product.mono (by decide)) (da_cons (de_var 3) (da_cons (de_var 8) (da_cons de_int da_nil))))))))
    (db_cons (ds_do (de_append (de_var 9) (de_handed (i := 4) g (Classical.choice (h__law_refusal _)) tb rfl (LamX.lamS_by (sc := defScope st__law_errors_right) (by decide +kernel)) rfl (fun _ _ _ _ _ => rfl) (fun A outer s H E f c2 hr hgd => (de_call (gd_lam g.nd hr hgd) (h_dot_product.mono (by decide)) (da_cons (de_var 1) (da_cons (de_var 8) (da_cons (de_var 6) da_nil))))))))
    (db_cons (ds_do (de_append (de_var 9) (de_handed (i := 4) g (Classical.choice (h__law_refusal _)) tb rfl (LamX.lamS_by (sc := defScope st__law_errors_right) (by decide +kernel)) rfl (fun _ _ _ _ _ => rfl) (fun A outer s H E f c2 hr hgd => (de_call (gd_lam g.nd hr hgd) (h_dot_product.mono (by decide)) (da_cons (de_var 1) (da_cons (de_var 6) (da_cons (de_var 7) da_nil))))))))
    (db_cons (ds_do (de_append (de_var 9) (de_handed (i := 4) g (Classical.choice (h__law_refusal _)) tb rfl (LamX.lamS_by (sc := defScope st__law_errors_right) (by decide +kernel)) rfl (fun _ _ _ _ _ => rfl) (fun A outer s H E f c2 hr hgd => (de_call (gd_lam g.nd hr hgd) (h_word_level.mono (by decide)) (da_cons (de_var 3) (da_cons (de_var 5) da_nil)))))))
    (db_cons (ds_do (de_append (de_var 9) (de_handed (i := 4) g (Classical.choice (h__law_refusal _)) tb rfl (LamX.lamS_by (sc := defScope st__law_errors_right) (by decide +kernel)) rfl (fun _ _ _ _ _ => rfl) (fun A outer s H E f c2 hr hgd => (de_call (gd_lam g.nd hr hgd) (h_word_level.mono (by decide)) (da_cons (de_var 1) (da_cons (de_var 5) da_nil)))))))
    (db_cons (ds_do (de_append (de_var 9) (de_handed (i := 4) g (Classical.choice (h__law_refusal _)) tb rfl (LamX.lamS_by (sc := defScope st__law_errors_right) (by decide +kernel)) rfl (fun _ _ _ _ _ => rfl) (fun A outer s H E f c2 hr hgd => (de_call (gd_lam g.nd hr hgd) (h_word_inverse.mono (by decide)) (da_cons (de_var 3) (da_cons (de_var 5) da_nil)))))))
    (db_cons (ds_do (de_append (de_var 9) (de_handed (i := 4) g (Classical.choice (h__law_refusal _)) tb rfl (LamX.lamS_by (sc := defScope st__law_errors_right) (by decide +kernel)) rfl (fun _ _ _ _ _ => rfl) (fun A outer s H E f c2 hr hgd => (de_call (gd_lam g.nd hr hgd) (h_word_inverse.mono (by decide)) (da_cons (de_var 1) (da_cons (de_var 5) da_nil)))))))
    (db_cons (s_set g.q (de_lst (da_cons (de_plus de_str (c_repr g.q nb.repr (de_var 4))) (da_cons (de_plus de_str (c_repr g.q nb.repr (de_var 5))) da_nil))))
    (db_cons (s_set g.q (de_lst (da_cons de_str (da_cons (de_ix (de_var 10) de_int) (da_cons de_str (da_cons de_str (da_cons de_str (da_cons de_str (da_cons (de_ix (de_var 10) de_int) (da_cons de_str (da_cons de_str (da_cons de_str da_nil))))))))))))
    (db_one (ds_ret (de_eq g.q (de_var 9) (de_plus (de_var 11) (de_times (de_lst (da_cons de_str (da_cons (de_ix (de_var 10) de_int) da_nil))) de_int)))))))))))))))))))))))))
/-! ### _law_long_right -/
abbrev st__law_long_right : Stmt := topS 52
abbrev n__law_long_right : List Str := [(Str.ofString "word"), (Str.ofString "found")]
theorem sc__law_long_right : FnScope n__law_long_right [] (defScope st__law_long_right) := ⟨rfl, rfl, rfl, by decide +kernel, rfl, by decide +kernel, by decide +kernel⟩
noncomputable def m__law_long_right (tp : Nat → Addr) : Sm :=
    (sSeq (sFor (wSeq (eCa dispT (esCons (eLit (.int 3)) (esCons (eLit (.int 5)) (esCons (eLit (.int 7)) (esCons (eLit (.int 12345)) (esCons (eLit (.int 40503)) (esCons (eLit (.int 65533)) (esCons (eLit (.int 32768)) (esCons (eLit (.int 49152)) esNil)))))))))) (gVar 0) (sIf (tNt (tVal (eCall (f__law_word_right tp) (esCons (eLit (.int 16)) (esCons (eVar 0) esNil))))) (sRet (eLit (.bool false))) sNil))
    (sSeq (sNew 1 (nLst (esCons (eHand 5 (lamQ (Str.ofString "_law_long_right")) (tp 5) g__law_refusal (eCall f_vector_multiple (esCons (eLit (.int 3)) (esCons (eBin pTimes (eCa dispT (esCons (eLit (.int 1)) esNil)) (eLit (.int 41))) (esCons (eLit (.int 1)) esNil))))) esNil)))
    (sSeq (sDo (eApp (eVar 1) (eHand 5 (lamQ (Str.ofString "_law_long_right")) (tp 5) g__law_refusal (eCall f_vector_multiple (esCons (eLit (.int 3)) (esCons (eCa dispT esNil) (esCons (eLit (.int 1)) esNil)))))))
    (sSeq (sDo (eApp (eVar 1) (eHand 5 (lamQ (Str.ofString "_law_long_right")) (tp 5) g__law_refusal (eCall f_dot_product (esCons (eLit (.int 3)) (esCons (eBin pTimes (eCa dispT (esCons (eLit (.int 1)) esNil)) (eLit (.int 41))) (esCons (eBin pTimes (eCa dispT (esCons (eLit (.int 1)) esNil)) (eLit (.int 41))) esNil)))))))
    (sSeq (sDo (eApp (eVar 1) (eHand 5 (lamQ (Str.ofString "_law_long_right")) (tp 5) g__law_refusal (eCall f_dot_product (esCons (eLit (.int 3)) (esCons (eCa dispT esNil) (esCons (eCa dispT esNil) esNil)))))))
    (sRet (eAnd (eBin pEq (eVar 1) (eBin pTimes (eCa dispL (esCons (eLit (.str (Str.ofString "vector"))) esNil)) (eLit (.int 4)))) (eBin pEq (eCall f_vector_multiple (esCons (eLit (.int 3)) (esCons (eBin pTimes (eCa dispT (esCons (eLit (.int 5)) esNil)) (eLit (.int 40))) (esCons (eLit (.int 3)) esNil)))) (eBin pTimes (eCa dispT (esCons (eLit (.int 7)) esNil)) (eLit (.int 40)))))))))))
noncomputable def f__law_long_right (tp : Nat → Addr) : Fn := fun args S => if args.length = 0 then fnRun 2 (m__law_long_right tp ) args S else none
theorem ok__law_long_right {tp : Nat → Addr} (nb : NB mg) (h_vector_multiple : FnG P w K mg base 7 (Str.ofString "vector_multiple") f_vector_multiple) (h_dot_product : FnG P w K mg base 7 (Str.ofString "dot_product") f_dot_product) (h__law_refusal : ∀ k, Nonempty (FnH P w K mg base k (Str.ofString "_law_refusal") g__law_refusal)) (h__law_word_right : FnG P w K mg base 7 (Str.ofString "_law_word_right") (f__law_word_right tp)) {f : Addr} {fd : FuncData} (F : Fun K (Str.ofString "_law_long_right") (Str.ofString "_law_long_right") st__law_long_right f fd) (hm : mg (Str.ofString "_law_long_right") = some (.ref f)) {c : Addr} (hc : fd.code = .ref c) (tb : LamX.TabB base mg c (tp 5)) : FnG P w K mg base 10 (Str.ofString "_law_long_right") (f__law_long_right tp) :=
  fn_defC (m := m__law_long_right tp ) F hm hc sc__law_long_right rfl (fun _ _ _ _ _ _ us hl => match us, hl with | [], _ => rfl) fun A outer s H E g =>
    (db_cons (ds_for g.po g.calm (di_seq (de_tup (da_cons de_int (da_cons de_int (da_cons de_int (da_cons de_int (da_cons de_int (da_cons de_int (da_cons de_int (da_cons de_int da_nil)))))))))) (dg_var g.nd) (db_one (ds_if (dt_not (dt_val (de_call g (h__law_word_right.mono (by decide)) (da_cons de_int (da_cons (de_var 0) da_nil))))) (db_one (ds_ret de_bl)) db_nil)))
    (db_cons (s_new g.q (dn_lst (da_cons (de_handed (i := 5) g (Classical.choice (h__law_refusal _)) tb rfl (LamX.lamS_by (sc := defScope st__law_long_right) (by decide +kernel)) rfl (fun _ _ _ _ _ => rfl) (fun A outer s H E f c2 hr hgd => (de_call (gd_lam g.nd hr hgd) (h_vector_multiple.mono (by decide)) (da_cons de_int (da_cons (de_times (de_tup (da_cons de_int da_nil)) de_int) (da_cons de_int da_nil)))))) da_nil)))
    (db_cons (ds_do (de_append (de_var 1) (de_handed (i := 5) g (Classical.choice (h__law_refusal _)) tb rfl (LamX.lamS_by (sc := defScope st__law_long_right) (by decide +kernel)) rfl (fun _ _ _ _ _ => rfl) (fun A outer s H E f c2 hr hgd => (de_call (gd_lam g.nd hr hgd) (h_vector_multiple.mono (by decide)) (da_cons de_int (da_cons (de_tup da_nil) (da_cons de_int da_nil))))))))
    (db_cons (ds_do (de_append (de_var 1) (de_handed (i := 5) g (Classical.choice (h__law_refusal _)) tb rfl (LamX.lamS_by (sc := defScope st__law_long_right) (by decide +kernel)) rfl (fun _ _ _ _ _ => rfl) (fun A outer s H E f c2 hr hgd => (de_call (gd_lam g.nd hr hgd) (h_dot_product.mono (by decide)) (da_cons de_int (da_cons (de_times (de_tup (da_cons de_int da_nil)) de_int) (da_cons (de_times (de_tup (da_cons de_int da_nil)) de_int) da_nil))))))))
    (db_cons (ds_do (de_append (de_var 1) (de_handed (i := 5) g (Classical.choice (h__law_refusal _)) tb rfl (LamX.lamS_by (sc := defScope st__law_long_right) (by decide +kernel)) rfl (fun _ _ _ _ _ => rfl) (fun A outer s H E f c2 hr hgd => (de_call (gd_lam g.nd hr hgd) (h_dot_product.mono (by decide)) (da_cons de_int (da_cons (de_tup da_nil) (da_cons (de_tup da_nil) da_nil))))))))
    (db_one (ds_ret (de_and (de_eq g.q (de_var 1) (de_times (de_lst (da_cons de_str da_nil)) de_int)) (de_one (de_eq g.q (de_call g (h_vector_multiple.mono (by decide)) (da_cons de_int (da_cons (de_times (de_tup (da_cons de_int da_nil)) de_int) (da_cons de_int da_nil)))) (de_times (de_tup (da_cons de_int da_nil)) de_int)))))))))))
/-! ### law -/
abbrev st_law : Stmt := topS 53
abbrev n_law : List Str := [(Str.ofString "script"), (Str.ofString "k"), (Str.ofString "stream"), (Str.ofString "width"), (Str.ofString "size"), (Str.ofString "some"), (Str.ofString "turn"), (Str.ofString "word")]
theorem sc_law : FnScope n_law [(Str.ofString "script")] (defScope st_law) := ⟨rfl, rfl, rfl, by decide +kernel, rfl, by decide +kernel, by decide +kernel⟩
noncomputable def m_law (tp : Nat → Addr) : Sm :=
    (sSeq (sFor (wRng1 (eCa pMax (esCons (eLit (.int 1)) (esCons (eCa pMin (esCons (eLit (.int 8)) (esCons (eCa pLen (esCons (eVar 0) esNil)) esNil))) esNil)))) (gVar 1) (sSeq (sNew 2 (nCall f__law_stream (esCons (eVar 0) (esCons (eVar 1) esNil))))
    (sSeq (sAsg (gPair (gVar 3) (gVar 4)) (eCa dispT (esCons (eCall f__law_width (esCons (eVar 2) esNil)) (esCons (eCall f__law_size (esCons (eVar 2) esNil)) esNil))))
    (sSeq (sSet 5 (eComp (wRng1 (eLit (.int 12))) (gVar 6) tTrue (eCall f__law_word (esCons (eVar 2) (esCons (eVar 3) esNil))) [6]))
    (sSeq (sIf (tVal (eBin pLt (eVar 3) (eLit (.int 5)))) (sSet 5 (eUn pLRg (eBin pShl (eLit (.int 1)) (eVar 3)))) sNil)
    (sSeq (sFor (wSeq (eBin pPlus (eVar 5) (eCa dispL (esCons (eLit (.int 0)) (esCons (eLit (.int 1)) (esCons (eBin pSub (eBin pShl (eLit (.int 1)) (eVar 3)) (eLit (.int 1))) esNil)))))) (gVar 7) (sIf (tNt (tVal (eCall (f__law_word_right tp) (esCons (eVar 3) (esCons (eVar 7) esNil))))) (sRet (eLit (.bool false))) sNil))
    (sIf (tNt (tVal (eCall (f__law_errors_right tp) (esCons (eVar 2) (esCons (eVar 3) (esCons (eVar 4) esNil)))))) (sRet (eLit (.bool false))) sNil)))))))
    (sRet (eCall (f__law_long_right tp) esNil)))
noncomputable def f_law (tp : Nat → Addr) : Fn := fun args S => if args.length = 1 then fnRun 7 (m_law tp ) args S else none
theorem ok_law {tp : Nat → Addr} (nb : NB mg) (h__law_stream : FnG P w K mg base 1 (Str.ofString "_law_stream") f__law_stream) (h__law_width : FnG P w K mg base 2 (Str.ofString "_law_width") f__law_width) (h__law_size : FnG P w K mg base 2 (Str.ofString "_law_size") f__law_size) (h__law_word : FnG P w K mg base 3 (Str.ofString "_law_word") f__law_word) (h__law_word_right : FnG P w K mg base 7 (Str.ofString "_law_word_right") (f__law_word_right tp)) (h__law_errors_right : FnG P w K mg base 14 (Str.ofString "_law_errors_right") (f__law_errors_right tp)) (h__law_long_right : FnG P w K mg base 10 (Str.ofString "_law_long_right") (f__law_long_right tp)) {f : Addr} {fd : FuncData} (F : Fun K (Str.ofString "law") (Str.ofString "law") st_law f fd) (hm : mg (Str.ofString "law") = some (.ref f)) : FnG P w K mg base 15 (Str.ofString "law") (f_law tp) :=
  fn_def (m := m_law tp ) F hm sc_law rfl (fun _ _ _ _ _ _ us hl => match us, hl with | [_], _ => rfl) fun cdv A outer s H E g =>
    (db_cons (ds_for g.po g.calm (di_rng1 nb.range (c_max g nb.max de_int (c_min g nb.min de_int (c_len nb.len (de_var 0))))) (dg_var g.nd) (db_cons (s_new g.q (dn_call g (h__law_stream.mono (by decide)) (da_cons (de_var 0) (da_cons (de_var 1) da_nil))))
    (db_cons (ds_asg (de_tup (da_cons (de_call g (h__law_width.mono (by decide)) (da_cons (de_var 2) da_nil)) (da_cons (de_call g (h__law_size.mono (by decide)) (da_cons (de_var 2) da_nil)) da_nil))) (dg_pair g.calm (dg_var g.nd) (dg_var g.nd)))
    (db_cons (ds_setLc g.calm g.nd rfl rfl (sw_true rfl rfl rfl (by decide +kernel)) (di_rng1 nb.range de_int) (blkOk_by (own := [((Str.ofString "turn"), 6)]) (N := n_law) (sc := defScope st_law) (by decide +kernel)) (by decide) (fun s H C cl fp => (dg_var (g.blk s H _ _ fp).nd)) (fun s H C cl fp => dts_nil) (fun s H C cl fp => (de_call (g.blk s H _ _ fp) (h__law_word.mono (by decide)) (da_cons (de_var 2) (da_cons (de_var 3) da_nil)))))
    (db_cons (ds_if (dt_lt (de_var 3) de_int) (db_one (s_set g.q (de_listRg g.calm nb.list nb.range (de_shl de_int (de_var 3))))) db_nil)
    (db_cons (ds_for g.po g.calm (di_seq (de_plus (de_var 5) (de_lst (da_cons de_int (da_cons de_int (da_cons (de_sub (de_shl de_int (de_var 3)) de_int) da_nil)))))) (dg_var g.nd) (db_one (ds_if (dt_not (dt_val (de_call g (h__law_word_right.mono (by decide)) (da_cons (de_var 3) (da_cons (de_var 7) da_nil))))) (db_one (ds_ret de_bl)) db_nil)))
    (db_one (ds_if (dt_not (dt_val (de_call g (h__law_errors_right.mono (by decide)) (da_cons (de_var 2) (da_cons (de_var 3) (da_cons (de_var 4) da_nil)))))) (db_one (ds_ret de_bl)) db_nil))))))))
    (db_one (ds_ret (de_call0 g (h__law_long_right.mono (by decide))))))
end
end T
set_option maxRecDepth 100000
set_option maxHeartbeats 4000000
namespace T
open PySem PySem.Spec PyProof.Rows L2 Z
/-! ## the stream of draws -/
/-- a stream stands at i -/
def StrAt (S : Sto) (i : Nat) : Prop := ∃ a b c : Int, 0 ≤ a ∧ S[i]? = some (.lst [.int a, .int b, .int c])
/-- S' is S with another stream at i -/
def Dr (S : Sto) (i : Nat) (S' : Sto) : Prop := ∃ a b c : Int, 0 ≤ a ∧ S' = S.set i (.lst [.int a, .int b, .int c])
theorem Dr.at {S S' : Sto} {i : Nat} (h : Dr S i S') (hi : i < S.length) : StrAt S' i := by
  obtain ⟨a, b, c, ha, rfl⟩ := h
  exact ⟨a, b, c, ha, by rw [List.getElem?_set_self hi]⟩
theorem StrAt.lt {S : Sto} {i : Nat} (h : StrAt S i) : i < S.length := by
  obtain ⟨a, b, c, _, e⟩ := h
  exact (List.getElem?_eq_some_iff.mp e).1
theorem Dr.trans {S S1 S2 : Sto} {i : Nat} (h : Dr S i S1) (h2 : Dr S1 i S2) : Dr S i S2 := by
  obtain ⟨a, b, c, ha, rfl⟩ := h
  obtain ⟨a', b', c', ha', rfl⟩ := h2
  exact ⟨a', b', c', ha', by rw [List.set_set]⟩
theorem Dr.len {S S' : Sto} {i : Nat} (h : Dr S i S') : S'.length = S.length := by
  obtain ⟨a, b, c, ha, rfl⟩ := h
  simp
theorem Dr.self {S : Sto} {i : Nat} (h : StrAt S i) : Dr S i S := by
  obtain ⟨a, b, c, ha, e⟩ := h
  refine ⟨a, b, c, ha, ?_⟩
  apply List.ext_getElem?
  intro j
  by_cases hj : i = j
  · subst hj
    rw [List.getElem?_set_self (List.getElem?_eq_some_iff.mp e).1, e]
  · rw [List.getElem?_set_ne hj]
theorem take_set {S : Sto} {i : Nat} {o : Ob} : (S.set i o).take S.length = S.set i o := by
  rw [List.take_of_length_le (by simp)]
theorem draw_pos {S : Sto} {i : Nat} {a b c n : Int} (hS : S[i]? = some (.lst [.int a, .int b, .int c])) (ha : 0 < a) (hn : 0 < n) (hn2 : n < 18446744073709551616) :
    f__law_draw [.r i, .d (.int n)] S = some (.ok (.d (.int (a % n))) (S.set i (.lst [.int (a / n), .int b, .int c]))) := by
  have hi := (List.getElem?_eq_some_iff.mp hS).1
  simp [f__law_draw, m__law_draw, hS, atI, ixN, ha, hn, hn2, take_set]
def dr1 (b c : Int) : Int := (b + 1000033 * (c + 1)) % 2305843009213693951
def dr2 (b c : Int) : Int := (dr1 b c * dr1 b c % 2305843009213693921 * dr1 b c + 7919 * (c + 1)) % 2305843009213693907
theorem draw_zero {S : Sto} {i : Nat} {b c n : Int} (hS : S[i]? = some (.lst [.int 0, .int b, .int c])) (hn : 0 < n) :
    f__law_draw [.r i, .d (.int n)] S = some (.ok (.d (.int (dr2 b c / 8192 % n))) (S.set i (.lst [.int 0, .int b, .int (c + 1)]))) := by
  have hi := (List.getElem?_eq_some_iff.mp hS).1
  have sh1 : ∀ x : Int, short (x % 2305843009213693951) := fun x => by
    have h1 := Int.emod_nonneg x (show (2305843009213693951 : Int) ≠ 0 by decide)
    have h2 := Int.emod_lt_of_pos x (show (0 : Int) < 2305843009213693951 by decide)
    exact ⟨by omega, by omega⟩
  have k1 : short 1000033 := by unfold short; omega
  have k2 : short 7919 := by unfold short; omega
  have gs : ∀ o, (S.set i o)[i]? = some o := fun o => List.getElem?_set_self hi
  simp [f__law_draw, m__law_draw, hS, atI, ixN, hn, gs, k1, k2, sh1, List.set_set, take_set, dr1, dr2]
theorem draw {S : Sto} {i : Nat} {n : Int} (h : StrAt S i) (hn : 0 < n) (hn2 : n < 18446744073709551616) :
    ∃ (v : Int) (S' : Sto), 0 ≤ v ∧ v < n ∧ Dr S i S' ∧ f__law_draw [.r i, .d (.int n)] S = some (.ok (.d (.int v)) S') := by
  obtain ⟨a, b, c, ha, e⟩ := h
  by_cases h0 : 0 < a
  · exact ⟨a % n, _, Int.emod_nonneg _ (by omega), Int.emod_lt_of_pos _ hn, ⟨_, _, _, Int.ediv_nonneg ha (by omega), rfl⟩, draw_pos e h0 hn hn2⟩
  · have : a = 0 := by omega
    subst this
    exact ⟨_, _, Int.emod_nonneg _ (by omega), Int.emod_lt_of_pos _ hn, ⟨0, _, _, Int.le_refl _, rfl⟩, draw_zero e hn⟩
end T
set_option maxRecDepth 100000
set_option maxHeartbeats 4000000
namespace T
open PySem PySem.Spec PyProof.Rows L2 Z
theorem stream {ns : List Int} {k : Nat} {S : Sto} : ∃ a b : Int, 0 ≤ a ∧ f__law_stream [.s ns, .d (.int k)] S = some (.nw (.lst [.int a, .int b, .int 0]) S) := by
  have k1 : short 69621 := by unfold short; omega
  have k2 : short 1009 := by unfold short; omega
  have k3 : short 11 := by unfold short; omega
  have k4 : short 3 := by unfold short; omega
  have hp := T720_pos
  obtain ⟨cell, hc⟩ : ∃ cell : Int, (sIf (tVal (eBin pLt (eVar 1) (eCa pLen (esCons (eVar 0) esNil)))) (sSet 2 (eBin pIx (eVar 0) (eVar 1))) sNil) [some (.s ns), some (.d (.int k)), some (.d (.int (11 * k + 4))), none, none] S = some (.nx [some (.s ns), some (.d (.int k)), some (.d (.int cell)), none, none] S) := by
    by_cases hk : k < ns.length
    · have e : ns[k]? = some ns[k] := List.getElem?_eq_getElem hk
      exact ⟨ns[k], by simp [atI, ixN, hk, e]⟩
    · exact ⟨11 * k + 4, by simp [hk]⟩
  obtain ⟨great, hg⟩ : ∃ great : Int, (sSet 3 (eBin pMod (eCa pAbs (esCons (eVar 2) esNil)) (eBin pPow (eBin pPow (eLit (.int 10)) (eLit (.int 60))) (eLit (.int 12))))) [some (.s ns), some (.d (.int k)), some (.d (.int cell)), none, none] S = some (.nx [some (.s ns), some (.d (.int k)), some (.d (.int cell)), some (.d (.int great)), none] S) :=
    ⟨_, by simp [pow_a, pow_b, hp]; rfl⟩
  obtain ⟨mixed, hm⟩ : ∃ mixed : Int, (sSet 4 (eBin pMod (eBin pPlus (eBin pPlus (eBin pPlus (eBin pTimes (eBin pMod (eVar 3) (eLit (.int 2147483587))) (eLit (.int 69621))) (eBin pTimes (eLit (.int 1009)) (eVar 1))) (eBin pTimes (eLit (.int 3)) (eCa pInt (esCons (eBin pLt (eVar 2) (eLit (.int 0))) esNil)))) (eLit (.int 17))) (eLit (.int 2147483647)))) [some (.s ns), some (.d (.int k)), some (.d (.int cell)), some (.d (.int great)), none] S = some (.nx [some (.s ns), some (.d (.int k)), some (.d (.int cell)), some (.d (.int great)), some (.d (.int mixed))] S) :=
    ⟨_, by simp [k1, k2, k4]; rfl⟩
  obtain ⟨a, ha, he⟩ : ∃ a : Int, 0 ≤ a ∧ (sRetNew (nLst (esCons (eCa pMax (esCons (eLit (.int 0)) (esCons (eBin pSub (eVar 3) (eBin pPow (eLit (.int 10)) (eLit (.int 18)))) esNil))) (esCons (eVar 4) (esCons (eLit (.int 0)) esNil))))) [some (.s ns), some (.d (.int k)), some (.d (.int cell)), some (.d (.int great)), some (.d (.int mixed))] S = some (.rt (.r S.length) (S ++ [.lst [.int a, .int mixed, .int 0]])) := by
    simp [pow_c, sz_le]
    generalize T18 = t
    split <;> omega
  refine ⟨a, mixed, ha, ?_⟩
  have hr : m__law_stream [some (.s ns), some (.d (.int k)), none, none, none] S = some (.rt (.r S.length) (S ++ [.lst [.int a, .int mixed, .int 0]])) := by
    unfold m__law_stream
    rw [seq_nx (σ' := [some (.s ns), some (.d (.int k)), some (.d (.int (11 * k + 4))), none, none]) (S' := S) (by simp [k3]), seq_nx hc, seq_nx hg, seq_nx hm, he]
  simp [f__law_stream, hr]
theorem atI_in {α : Type} {ds : List α} {v : Int} (h : 0 ≤ v) (h2 : v < ds.length) : ∃ d, atI ds v = some d ∧ d ∈ ds := by
  have h3 : v.toNat < ds.length := by omega
  refine ⟨ds[v.toNat], ?_, List.getElem_mem h3⟩
  unfold atI ixN
  simp [h, h2, h3]
theorem Dr.app {A L S' : Sto} {i : Nat} (h : Dr (A ++ L) i S') (hi : i < A.length) : ∃ A', Dr A i A' ∧ S' = A' ++ L := by
  obtain ⟨a, b, c, ha, rfl⟩ := h
  exact ⟨_, ⟨a, b, c, ha, rfl⟩, List.set_append_left _ _ hi⟩
theorem StrAt.app {A L : Sto} {i : Nat} (h : StrAt A i) : StrAt (A ++ L) i := by
  have hl := h.lt
  obtain ⟨a, b, c, ha, e⟩ := h
  exact ⟨a, b, c, ha, by rw [List.getElem?_append_left hl]; exact e⟩
/-- a draw beside a store -/
theorem drawL {A L : Sto} {i : Nat} {n : Int} (h : StrAt A i) (hn : 0 < n) (hn2 : n < 18446744073709551616) :
    ∃ (v : Int) (A' : Sto), 0 ≤ v ∧ v < n ∧ Dr A i A' ∧ f__law_draw [.r i, .d (.int n)] (A ++ L) = some (.ok (.d (.int v)) (A' ++ L)) := by
  obtain ⟨v, S', h1, h2, h3, h4⟩ := draw (h.app (L := L)) hn hn2
  obtain ⟨A', h5, rfl⟩ := h3.app h.lt
  exact ⟨v, A', h1, h2, h5, h4⟩
/-- a word of width w -/
def wordsW (w : Nat) (ns : List Int) : Prop := ∀ n ∈ ns, 0 ≤ n ∧ n < 2 ^ w
theorem row {S : Sto} {i : Nat} {w n : Nat} (h : StrAt S i) (hw : 1 ≤ w) (hw2 : w ≤ 16) (hn : n ≤ 40) :
    ∃ (ns : List Int) (S' : Sto), Dr S i S' ∧ ns.length = n ∧ wordsW w ns ∧ f__law_row [.r i, .d (.int w), .d (.int n)] S = some (.ok (.d (tupI ns)) S') := by
  have ht : (2 : Int) ≤ 2 ^ w := by
    have h1 : (2 : Nat) ^ 1 ≤ 2 ^ w := Nat.pow_le_pow_right (by omega) hw
    have h2 : ((2 ^ w : Nat) : Int) = 2 ^ w := by rw [Int.natCast_pow]; rfl
    omega
  have ht2 : (2 : Int) ^ w ≤ 65536 := by
    have h1 : (2 : Nat) ^ w ≤ 2 ^ 16 := Nat.pow_le_pow_right (by omega) hw2
    have h2 : ((2 ^ w : Nat) : Int) = 2 ^ w := by rw [Int.natCast_pow]; rfl
    omega
  have loop := forGo_inv (g := gVar 5) (body := (sDo (eApp (eVar 3) (eBin pIx (eCa dispL (esCons (eLit (.int 0)) (esCons (eLit (.int 1)) (esCons (eLit (.int 0)) (esCons (eLit (.int 1)) (esCons (eBin pMod (eLit (.int 2)) (eVar 4)) (esCons (eBin pSub (eVar 4) (eLit (.int 1))) (esCons (eBin pDiv (eVar 4) (eLit (.int 2))) (esCons (eCall f__law_draw (esCons (eVar 0) (esCons (eVar 4) esNil))) esNil))))))))) (eCall f__law_draw (esCons (eVar 0) (esCons (eLit (.int 8)) esNil)))))))
    (fun j σ T => ∃ (A : Sto) (ns : List Int) (x : Option SV), Dr S i A ∧ T = A ++ [.lst (ns.map .int)] ∧ ns.length = j ∧ wordsW w ns ∧ σ = [some (.r i), some (.d (.int w)), some (.d (.int n)), some (.r S.length), some (.d (.int (2 ^ w))), x])
    (upTo 0 n) 0 (by
      rintro j d σ T hd ⟨A, ns, x, hA, rfl, hl, hns, rfl⟩
      obtain ⟨hj, rfl⟩ := upTo_get hd
      have hAl := hA.len
      refine ⟨_, rfl, ?_⟩
      obtain ⟨v, A1, v0, v1, dA, e1⟩ := drawL (L := [.lst (ns.map .int)]) (hA.at h.lt) (n := 2 ^ w) (by omega) (by omega)
      obtain ⟨u, A2, u0, u1, dA2, e2⟩ := drawL (L := [.lst (ns.map .int)]) ((hA.trans dA).at h.lt) (n := 8) (by omega) (by omega)
      obtain ⟨y, e3, hy⟩ := atI_in (ds := [PyData.int 0, .int 1, .int 0, .int 1, .int (2 % 2 ^ w), .int (2 ^ w - 1), .int (2 ^ w / 2), .int v]) u0 (by simpa using u1)
      have hp : (0 : Int) < 2 ^ w := by omega
      have hAl2 := ((hA.trans dA).trans dA2).len
      have g1 : ∀ o, (A ++ [o])[S.length]? = some o := fun o => by rw [← hAl]; simp
      have g2 : ∀ o, (A2 ++ [o])[S.length]? = some o := fun o => by rw [← hAl2]; simp
      have g3 : ∀ o o', (A2 ++ [o]).set S.length o' = A2 ++ [o'] := fun o o' => by rw [← hAl2]; simp
      have hz : ns.length < sizeLine := sz_lt (by omega)
      have hy2 : ∃ z : Int, y = .int z ∧ 0 ≤ z ∧ z < 2 ^ w := by
        simp only [List.mem_cons, List.not_mem_nil, or_false] at hy
        have q1 := Int.emod_nonneg 2 (show (2 : Int) ^ w ≠ 0 by omega)
        have q2 := Int.emod_lt_of_pos 2 hp
        rcases hy with rfl | rfl | rfl | rfl | rfl | rfl | rfl | rfl
        · exact ⟨0, rfl, by omega, by omega⟩
        · exact ⟨1, rfl, by omega, by omega⟩
        · exact ⟨0, rfl, by omega, by omega⟩
        · exact ⟨1, rfl, by omega, by omega⟩
        · exact ⟨_, rfl, q1, q2⟩
        · exact ⟨_, rfl, by omega, by omega⟩
        · exact ⟨_, rfl, by omega, by omega⟩
        · exact ⟨_, rfl, by omega, by omega⟩
      obtain ⟨z, rfl, z0, z1⟩ := hy2
      refine ⟨_, _, by simp [g1, g2, g3, e1, e2, e3, hp, sz_le, hz]; exact ⟨rfl, rfl⟩, A2, ns ++ [z], _, (hA.trans dA).trans dA2, by simp, by simp; omega, ?_, rfl⟩
      intro m hm
      rcases List.mem_append.mp hm with hm | hm
      · exact hns m hm
      · cases List.mem_singleton.mp hm
        exact ⟨z0, z1⟩)
  obtain ⟨σ', S', e, A, ns, x, hA, rfl, hl, hns, rfl⟩ := loop [some (.r i), some (.d (.int w)), some (.d (.int n)), some (.r S.length), some (.d (.int (2 ^ w))), none] (S ++ [.lst []]) ⟨S, [], none, Dr.self h, rfl, rfl, (fun m hm => absurd hm (by simp)), rfl⟩
  refine ⟨ns, A, hA, by simpa [upTo_len] using hl, hns, ?_⟩
  have hs : short 1 := by unfold short; omega
  have h62 : small62 (n : Int) := by unfold small62; omega
  have hwl : (w : Int) ≤ 1000000 := by omega
  have hAl := hA.len
  have g1 : ∀ o, (A ++ [o])[S.length]? = some o := fun o => by rw [← hAl]; simp
  have g4 : ∀ o, (A ++ [o]).take S.length = A := fun o => by rw [← hAl]; simp
  have s1 : (sParN 3 4 (nLst esNil) (eBin pShl (eLit (.int 1)) (eVar 1))) [some (.r i), some (.d (.int w)), some (.d (.int n)), none, none, none] S = some (.nx [some (.r i), some (.d (.int w)), some (.d (.int n)), some (.r S.length), some (.d (.int (2 ^ w))), none] (S ++ [.lst []])) := by
    simp [hs, hwl, sz_le]
  have s2 : (sFor (wRng1 (eVar 2)) (gVar 5) (sDo (eApp (eVar 3) (eBin pIx (eCa dispL (esCons (eLit (.int 0)) (esCons (eLit (.int 1)) (esCons (eLit (.int 0)) (esCons (eLit (.int 1)) (esCons (eBin pMod (eLit (.int 2)) (eVar 4)) (esCons (eBin pSub (eVar 4) (eLit (.int 1))) (esCons (eBin pDiv (eVar 4) (eLit (.int 2))) (esCons (eCall f__law_draw (esCons (eVar 0) (esCons (eVar 4) esNil))) esNil))))))))) (eCall f__law_draw (esCons (eVar 0) (esCons (eLit (.int 8)) esNil))))))) [some (.r i), some (.d (.int w)), some (.d (.int n)), some (.r S.length), some (.d (.int (2 ^ w))), none] (S ++ [.lst []]) = some (.nx [some (.r i), some (.d (.int w)), some (.d (.int n)), some (.r S.length), some (.d (.int (2 ^ w))), x] (A ++ [.lst (ns.map .int)])) := by
    rw [show ∀ (b : Sm) σ S, sFor (wRng1 (eVar 2)) (gVar 5) b σ S = Sm.bnd ((wRng1 (eVar 2)) σ S) fun wk S1 => forGo wk.own (gVar 5) b wk.ds σ S1 from fun _ _ _ => rfl]
    rw [show (wRng1 (eVar 2)) [some (.r i), some (.d (.int w)), some (.d (.int n)), some (.r S.length), some (.d (.int (2 ^ w))), none] (S ++ [.lst []]) = some (.ok ⟨upTo 0 n, none⟩ (S ++ [.lst []])) by simp [h62]]
    exact e
  have hr : m__law_row [some (.r i), some (.d (.int w)), some (.d (.int n)), none, none, none] S = some (.rt (.d (tupI ns)) (A ++ [.lst (ns.map .int)])) := by
    unfold m__law_row
    rw [seq_nx s1, seq_nx s2]
    simp [g1, tupI]
  simp [f__law_row, hr, g4]
end T
set_option maxRecDepth 100000
set_option maxHeartbeats 4000000
namespace T
open PySem PySem.Spec PyProof.Rows L2 Z
def isWord (w : Nat) : PyData → Bool
  | .int i => decide (0 ≤ i ∧ i < 2 ^ w)
  | _ => false
def isVec (w n : Nat) : PyData → Bool
  | .tuple ds => decide (ds.length = n) && ds.all (isWord w)
  | _ => false
theorem pow_w {w : Nat} (hw2 : w ≤ 16) : (0 : Int) < 2 ^ w ∧ (2 : Int) ^ w ≤ 65536 := by
  have h1 : (2 : Nat) ^ w ≤ 2 ^ 16 := Nat.pow_le_pow_right (by omega) hw2
  have h2 : ((2 ^ w : Nat) : Int) = 2 ^ w := by rw [Int.natCast_pow]; rfl
  have h3 : 0 < (2 : Nat) ^ w := Nat.pow_pos (by omega)
  omega
theorem p_fits_bounds {S : Sto} {lo hi : Int} (v : PyData) : f_fits_bounds [.d v, .d (.int lo), .d (.int hi)] S = some (.ok (.d (.bool (match v with | .int i => decide (lo ≤ i ∧ i ≤ hi) | _ => false))) S) := by
  cases v <;> simp [f_fits_bounds, m_fits_bounds]
  rename_i i
  by_cases h1 : lo ≤ i
  · by_cases h2 : i ≤ hi <;> simp [h1, h2]
  · simp [h1]
theorem p_fits_word {S : Sto} {w : Nat} (hw2 : w ≤ 16) (v : PyData) : f_fits_word [.d (.int w), .d v] S = some (.ok (.d (.bool (isWord w v))) S) := by
  have hs : short 1 := by unfold short; omega
  have hwl : (w : Int) ≤ 1000000 := by omega
  simp [f_fits_word, m_fits_word, hs, hwl, p_fits_bounds]
  cases v <;> simp [isWord]
  generalize (2 : Int) ^ w = t
  congr 1
  exact decide_eq_decide.mpr (by omega)
theorem boolsD_mapf (f : PyData → Bool) (ds : List PyData) : boolsD (ds.map (PyData.bool ∘ f)) = some (ds.map f) := by
  rw [← List.map_map, boolsD_map]
theorem cmp_bools {g : Tg} {e : Ex} {σ0 : Sg} {S : Sto} (p : PyData → Bool) (ds : List PyData) (hz : ds.length ≤ sizeLine)
    (h : ∀ d ∈ ds, ∃ σ1, g d σ0 = some σ1 ∧ e σ1 S = some (.ok (.d (.bool (p d))) S)) : cmpGo none g tTrue e σ0 ds [] S = some (S, (ds.map p).map .bool) := by
  rw [cmpGo_map (fun d => .bool (p d)) ds [] h (by simpa using hz)]
  simp
theorem p_fits_words {S : Sto} {w : Nat} {n : Int} (hw2 : w ≤ 16) (v : PyData) (hz : ∀ ds, v = .tuple ds → ds.length ≤ sizeLine) : f_fits_words [.d (.int w), .d (.int n), .d v] S = some (.ok (.d (.bool (match v with | .tuple ds => decide ((ds.length : Int) = n) && ds.all (isWord w) | _ => false))) S) := by
  cases v with
  | tuple ds =>
    have hc := cmp_bools (g := gVar 3) (e := (eCall f_fits_word (esCons (eVar 0) (esCons (eVar 3) esNil)))) (σ0 := [some (.d (.int w)), some (.d (.int n)), some (.d (.tuple ds)), none]) (S := S) (isWord w) ds (hz ds rfl) fun d _ => ⟨_, rfl, by simp [p_fits_word hw2]⟩
    by_cases h : (ds.length : Int) = n
    · have e : ds.all (id ∘ isWord w) = ds.all (isWord w) := rfl
      simp [f_fits_words, m_fits_words, hc, boolsD_mapf, h, okD_int, PyData.eqv, e]
    · simp [f_fits_words, m_fits_words, h, okD_int, PyData.eqv]
  | _ => simp [f_fits_words, m_fits_words]
theorem p_fits_vector {S : Sto} {w n : Nat} (hw2 : w ≤ 16) (v : PyData) (hz : ∀ ds, v = .tuple ds → ds.length ≤ sizeLine) : f_fits_vector [.d (.int w), .d (.int n), .d v] S = some (.ok (.d (.bool (isVec w n v))) S) := by
  simp [f_fits_vector, m_fits_vector, p_fits_words hw2 v hz]
  cases v <;> simp only [isVec]
  congr 1
  exact decide_eq_decide.mpr (by omega)
theorem p_is_width {S : Sto} (v : PyData) : f_is_width [.d v] S = some (.ok (.d (.bool (match v with | .int i => decide (1 ≤ i ∧ i ≤ 16) | _ => false))) S) := by
  simp [f_is_width, m_is_width, p_fits_bounds]
def inWidth (v : PyData) : Bool := match v with | .int i => decide (1 ≤ i ∧ i ≤ 16) | _ => false
theorem p_need_width {S : Sto} (v : PyData) : f_need_width [.d v] S = some (if inWidth v = true then .ok (.d .none) S else .exc ⟨Str.ofString "InvalidWidth", none⟩ S) := by
  have : f_is_width [.d v] S = some (.ok (.d (.bool (inWidth v))) S) := by rw [p_is_width]; cases v <;> rfl
  simp only [f_need_width, m_need_width]
  generalize inWidth v = b at this ⊢
  cases b <;> simp [this]
theorem p_ok_width {S : Sto} {w : Nat} (hw : 1 ≤ w) (hw2 : w ≤ 16) : f_need_width [.d (.int w)] S = some (.ok (.d .none) S) := by
  rw [p_need_width, if_pos (by simp [inWidth]; omega)]
theorem p_bad_width {S : Sto} {o : PyData} (ho : inWidth o = false) : f_need_width [.d o] S = some (.exc ⟨Str.ofString "InvalidWidth", none⟩ S) := by
  rw [p_need_width, if_neg (by simp [ho])]
def inSize (v : PyData) : Bool := match v with | .int i => decide (1 ≤ i ∧ i ≤ 40) | _ => false
theorem p_need_size {S : Sto} (v : PyData) : f_need_size [.d v] S = some (if inSize v = true then .ok (.d .none) S else .exc ⟨Str.ofString "InvalidNumber", some (Str.ofString "value", v)⟩ S) := by
  have : f_fits_size [.d v] S = some (.ok (.d (.bool (inSize v))) S) := by
    have h : f_fits_size [.d v] S = some (.ok (.d (.bool (match v with | .int i => decide (1 ≤ i ∧ i ≤ 40) | _ => false))) S) := by simp [f_fits_size, m_fits_size, p_fits_bounds]
    rw [h]; cases v <;> rfl
  simp only [f_need_size, m_need_size]
  generalize inSize v = b at this ⊢
  cases b <;> simp [this]
theorem p_ok_size {S : Sto} {n : Nat} (h : 1 ≤ n ∧ n ≤ 40) : f_need_size [.d (.int n)] S = some (.ok (.d .none) S) := by
  rw [p_need_size, if_pos (by simp [inSize]; omega)]
theorem p_bad_size {S : Sto} {o : PyData} (ho : inSize o = false) : f_need_size [.d o] S = some (.exc ⟨Str.ofString "InvalidNumber", some (Str.ofString "value", o)⟩ S) := by
  rw [p_need_size, if_neg (by simp [ho])]
abbrev xW : Exn := ⟨Str.ofString "InvalidWidth", none⟩
abbrev xV : Exn := ⟨Str.ofString "InvalidVector", none⟩
abbrev xN (v : PyData) : Exn := ⟨Str.ofString "InvalidNumber", some (Str.ofString "value", v)⟩
theorem p_ok_word {S : Sto} {w : Nat} {v : PyData} (hw2 : w ≤ 16) (h : isWord w v = true) : f_need_word [.d (.int w), .d v] S = some (.ok (.d .none) S) := by
  have := p_fits_word (S := S) hw2 v
  rw [h] at this
  simp [f_need_word, m_need_word, this]
theorem p_bad_word {S : Sto} {w : Nat} {v : PyData} (hw2 : w ≤ 16) (h : isWord w v = false) : f_need_word [.d (.int w), .d v] S = some (.exc (xN v) S) := by
  have := p_fits_word (S := S) hw2 v
  rw [h] at this
  simp [f_need_word, m_need_word, this]
theorem p_ok_vector {S : Sto} {w n : Nat} {v : PyData} (hw2 : w ≤ 16) (hz : ∀ ds, v = .tuple ds → ds.length ≤ sizeLine) (h : isVec w n v = true) : f_need_vector [.d (.int w), .d (.int n), .d v] S = some (.ok (.d .none) S) := by
  have := p_fits_vector (S := S) (n := n) hw2 v hz
  rw [h] at this
  simp [f_need_vector, m_need_vector, this]
theorem dig_len {w n : Nat} (hw2 : w ≤ 16) (hn : n ≤ 16777216) : (((((Str.empty ++ Str.ofString "a vector of size ") ++ Str.ofString (toString (n : Int))) ++ Str.ofString " is a tuple of ") ++ Str.ofString (toString (n : Int))) ++ Str.ofString " words of width ").length + (Str.ofString (toString (w : Int))).length ≤ 200 := by
  have h1 : (n : Int).natAbs.log2 < 30 := log_lt (n := 30) (by omega) (by omega)
  have h2 : (w : Int).natAbs.log2 < 30 := log_lt (n := 30) (by omega) (by omega)
  have l1 := int_str_len (n : Int)
  have l2 := int_str_len (w : Int)
  have e1 : (Str.ofString "a vector of size ").length = 17 := rfl
  have e2 : (Str.ofString " is a tuple of ").length = 15 := rfl
  have e3 : (Str.ofString " words of width ").length = 16 := rfl
  have e0 : Str.empty.length = 0 := rfl
  simp only [strLen_append, e0, e1, e2, e3]
  omega
theorem p_bad_vector {S : Sto} {w n : Nat} {v : PyData} (hw2 : w ≤ 16) (hn : n ≤ 16777216) (hz : ∀ ds, v = .tuple ds → ds.length ≤ sizeLine) (h : isVec w n v = false) : f_need_vector [.d (.int w), .d (.int n), .d v] S = some (.exc xV S) := by
  have := p_fits_vector (S := S) (n := n) hw2 v hz
  rw [h] at this
  have h1 : n.log2 < 1920 := by
    have : (n : Int).natAbs.log2 < 30 := log_lt (n := 30) (by omega) (by omega)
    simp at this; omega
  have h2 : w.log2 < 1920 := by
    have : (w : Int).natAbs.log2 < 30 := log_lt (n := 30) (by omega) (by omega)
    simp at this; omega
  have L := dig_len hw2 hn
  have e1 : (Str.ofString "a vector of size ").length = 17 := rfl
  have e2 : (Str.ofString " is a tuple of ").length = 15 := rfl
  have e3 : (Str.ofString " words of width ").length = 16 := rfl
  have e0 : Str.empty.length = 0 := rfl
  simp only [strLen_append, e0, e1, e2, e3] at L
  have hj : ∃ y : Str, (eJoin [(eLit (.str (Str.ofString "a vector of size "))), (eUn pFmt (eVar 1)), (eLit (.str (Str.ofString " is a tuple of "))), (eUn pFmt (eVar 1)), (eLit (.str (Str.ofString " words of width "))), (eUn pFmt (eVar 0))]) [some (.d (.int w)), some (.d (.int n)), some (.d v)] S = some (.ok (.d (.str y)) S) := by
    refine ⟨(((((Str.empty ++ Str.ofString "a vector of size ") ++ Str.ofString (toString (n : Int))) ++ Str.ofString " is a tuple of ") ++ Str.ofString (toString (n : Int))) ++ Str.ofString " words of width ") ++ Str.ofString (toString (w : Int)), ?_⟩
    have zz : ∀ k, k ≤ 200 → k ≤ sizeLine := fun k hk => sz_le (by omega)
    simp only [eJoin, jGo, eLit, eUn, eVar, pFmt, List.getElem?_cons_zero, List.getElem?_cons_succ, Res.bnd, Option.map, Int.natAbs_natCast, h1, h2, if_true]
    simp only [strLen_append, e0, e1, e2, e3, zz _ (show 0 + 17 ≤ 200 by omega), zz _ (show 0 + 17 + (Str.ofString (toString (n : Int))).length ≤ 200 by omega), zz _ (show 0 + 17 + (Str.ofString (toString (n : Int))).length + 15 ≤ 200 by omega), zz _ (show 0 + 17 + (Str.ofString (toString (n : Int))).length + 15 + (Str.ofString (toString (n : Int))).length ≤ 200 by omega), zz _ (show 0 + 17 + (Str.ofString (toString (n : Int))).length + 15 + (Str.ofString (toString (n : Int))).length + 16 ≤ 200 by omega), zz _ L, if_true]
  obtain ⟨y, hj⟩ := hj
  generalize hq : (eJoin [(eLit (.str (Str.ofString "a vector of size "))), (eUn pFmt (eVar 1)), (eLit (.str (Str.ofString " is a tuple of "))), (eUn pFmt (eVar 1)), (eLit (.str (Str.ofString " words of width "))), (eUn pFmt (eVar 0))]) = J at hj
  simp only [f_need_vector, m_need_vector, hq]
  simp [this, hj]
/-! ## the text's own judges -/
theorem l_is_word {S : Sto} {w : Nat} (hw2 : w ≤ 16) (v : PyData) : f__law_is_word [.d (.int w), .d v] S = some (.ok (.d (.bool (isWord w v))) S) := by
  have hs : short 1 := by unfold short; omega
  have hwl : (w : Int) ≤ 1000000 := by omega
  cases v <;> simp [f__law_is_word, m__law_is_word, isWord]
  rename_i i
  by_cases h0 : 0 ≤ i
  · by_cases h1 : i < 2 ^ w <;> simp [h0, h1, hs, hwl]
  · simp [h0]
/-- a comprehension that counts -/
theorem cmp_ones {g : Tg} {t : Tst} {e : Ex} {σ0 : Sg} {S : Sto} (p : PyData → Bool) : ∀ (ds acc : List PyData), acc.length + ds.length ≤ sizeLine →
    (∀ d ∈ ds, ∃ σ1, g d σ0 = some σ1 ∧ t σ1 S = some (.ok (p d) S) ∧ e σ1 S = some (.ok (.d (.int 1)) S)) → cmpGo none g t e σ0 ds acc S = some (S, acc ++ (ds.filter p).map fun _ => .int 1)
  | [], acc, _, _ => by simp [cmpGo, gdOk]
  | d :: ds, acc, hz, h => by
    obtain ⟨σ1, e1, e2, e3⟩ := h d List.mem_cons_self
    have h' := fun d' m => h d' (List.mem_cons_of_mem _ m)
    cases hp : p d with
    | false =>
      have ih := cmp_ones p ds acc (by simp at hz; omega) h'
      rw [hp] at e2
      simp [cmpGo, gdOk, e1, e2, ih, hp]
    | true =>
      have hlt : acc.length < sizeLine := by simp at hz; omega
      have ih := cmp_ones p ds (acc ++ [.int 1]) (by simp at hz ⊢; omega) h'
      rw [hp] at e2
      simp [cmpGo, gdOk, e1, e2, e3, hlt, ih, hp]
theorem ones_emp (p : PyData → Bool) (ds : List PyData) : PyData.eqv (.list ((ds.filter fun d => !p d).map fun _ => .int 1)) (.list []) = ds.all p := by
  simp only [PyData.eqv]
  rw [eqv_emp]
  induction ds with
  | nil => rfl
  | cons d ds ih =>
    cases h : p d <;> simp [h, ih]
theorem l_is_vector {S : Sto} {w n : Nat} (hw2 : w ≤ 16) (v : PyData) (hz : ∀ ds, v = .tuple ds → ds.length ≤ sizeLine) : f__law_is_vector [.d (.int w), .d (.int n), .d v] S = some (.ok (.d (.bool (isVec w n v))) S) := by
  cases v with
  | tuple ds =>
    by_cases hl : ds.length = n
    · have hl' : (ds.length : Int) = n := by omega
      have hc := cmp_ones (g := gVar 3) (t := (tNt (tVal (eCall f__law_is_word (esCons (eVar 0) (esCons (eVar 3) esNil)))))) (e := (eLit (.int 1))) (σ0 := [some (.d (.int w)), some (.d (.int n)), some (.d (.tuple ds)), none]) (S := S) (fun d => !isWord w d) ds [] (by simpa using hz ds rfl) fun d _ => ⟨_, rfl, by
        simp [l_is_word hw2], rfl⟩
      have e := ones_emp (isWord w) ds
      simp only [List.nil_append] at hc
      simp [f__law_is_vector, m__law_is_vector, hl, okD_int, PyData.eqv, hc, isVec]
      simpa [PyData.eqv] using e
    · have hl' : ¬ (ds.length : Int) = n := by omega
      simp [f__law_is_vector, m__law_is_vector, hl, hl', okD_int, PyData.eqv, isVec]
  | _ => simp [f__law_is_vector, m__law_is_vector, isVec]
end T
set_option maxRecDepth 100000
set_option maxHeartbeats 4000000
namespace T
open PySem PySem.Spec PyProof.Rows L2 Z
theorem forall_cons {α : Type} {p : α → Prop} {a : α} {l : List α} (h : p a) (r : ∀ x ∈ l, p x) : ∀ x ∈ a :: l, p x := List.forall_mem_cons.mpr ⟨h, r⟩
theorem forall_nil {α : Type} {p : α → Prop} : ∀ x ∈ ([] : List α), p x := fun _ h => nomatch h
theorem szc {b dep sz b' dep' sz' : Nat} {d : PyData} (h : smD b' dep' sz' d = true) (h1 : b' ≤ b := by omega) (h2 : dep' ≤ dep := by omega) (h3 : sz' ≤ sz := by omega) : Sz b dep sz d := (Sz.of h).mono h1 h2 h3
theorem sz_int1 {b dep sz : Nat} {v c : Int} (h : Sz b dep sz (.int v)) (hc : c.natAbs < 2 ^ b) : Sz (b + 1) dep (sz + b + 4) (.int (v + c)) := by
  have h1 := h.b
  simp only [okS, decide_eq_true_eq] at h1
  have := log_add (n := b) h1 hc
  exact (Sz.int (dep := dep) this).mono (Nat.le_refl _) (Nat.le_refl _) (by omega)
theorem asc_app {x y : Str} (h : asc x = true) (h2 : asc y = true) : asc (x ++ y) = true := by
  have e : (x ++ y).cps.toList = x.cps.toList ++ y.cps.toList := by
    show (x.cps ++ y.cps).toList = _
    simp
  simp only [asc, e, List.all_append, h, h2, Bool.and_true] at *
  simp [h, h2]
theorem asc_int (i : Int) : asc (Str.ofString (toString i)) = true := by
  rw [asc, Str.ofString_eq_toList]
  simp only [List.all_eq_true]
  intro c hc
  simp only [List.mem_map] at hc
  obtain ⟨ch, hch, rfl⟩ := hc
  rw [decide_eq_true_eq]
  have hd : ∀ n : Nat, ∀ c ∈ (n.repr).toList, c.toNat < 128 := fun n c hc => by
    have := Nat.isDigit_of_mem_toDigits (b := 10) (n := n) (by decide) (by decide) (by simpa [Nat.repr] using hc)
    simp [Char.isDigit] at this
    have h2 := this.2
    have : c.toNat ≤ 57 := h2
    omega
  cases i with
  | ofNat m => exact hd m ch hch
  | negSucc m =>
    have hch : ch ∈ ("-" ++ (m + 1).repr).toList := hch
    rw [String.toList_append] at hch
    rcases List.mem_append.mp hch with q | q
    · have : ch = '-' := by simpa using q
      rw [this]; decide
    · exact hd _ ch q
theorem law_width {S : Sto} {i : Nat} (h : StrAt S i) : ∃ (w : Nat) (S' : Sto), 1 ≤ w ∧ w ≤ 16 ∧ Dr S i S' ∧ f__law_width [.r i] S = some (.ok (.d (.int w)) S') := by
  obtain ⟨v, S1, v0, v1, d1, e1⟩ := draw h (n := 16) (by omega) (by omega)
  obtain ⟨u, S2, u0, u1, d2, e2⟩ := draw (d1.at h.lt) (n := 8) (by omega) (by omega)
  obtain ⟨y, e3, hy⟩ := atI_in (ds := [PyData.int 1, .int 2, .int 3, .int 4, .int 8, .int 16, .int 5, .int (1 + v)]) u0 (by simpa using u1)
  have hy2 : ∃ z : Nat, y = .int z ∧ 1 ≤ z ∧ z ≤ 16 := by
    simp only [List.mem_cons, List.not_mem_nil, or_false] at hy
    rcases hy with rfl | rfl | rfl | rfl | rfl | rfl | rfl | rfl
    · exact ⟨1, rfl, by omega, by omega⟩
    · exact ⟨2, rfl, by omega, by omega⟩
    · exact ⟨3, rfl, by omega, by omega⟩
    · exact ⟨4, rfl, by omega, by omega⟩
    · exact ⟨8, rfl, by omega, by omega⟩
    · exact ⟨16, rfl, by omega, by omega⟩
    · exact ⟨5, rfl, by omega, by omega⟩
    · exact ⟨(1 + v).toNat, by congr 1; omega, by omega, by omega⟩
  obtain ⟨z, rfl, z0, z1⟩ := hy2
  have hl := (d1.trans d2).len
  exact ⟨z, S2, z0, z1, d1.trans d2, by simp [f__law_width, m__law_width, e1, e2, e3, ← hl]⟩
theorem law_size {S : Sto} {i : Nat} (h : StrAt S i) : ∃ (w : Nat) (S' : Sto), 1 ≤ w ∧ w ≤ 40 ∧ Dr S i S' ∧ f__law_size [.r i] S = some (.ok (.d (.int w)) S') := by
  obtain ⟨v, S1, v0, v1, d1, e1⟩ := draw h (n := 40) (by omega) (by omega)
  obtain ⟨u, S2, u0, u1, d2, e2⟩ := draw (d1.at h.lt) (n := 6) (by omega) (by omega)
  obtain ⟨y, e3, hy⟩ := atI_in (ds := [PyData.int 1, .int 2, .int 3, .int 2, .int 4, .int (1 + v)]) u0 (by simpa using u1)
  have hy2 : ∃ z : Nat, y = .int z ∧ 1 ≤ z ∧ z ≤ 40 := by
    simp only [List.mem_cons, List.not_mem_nil, or_false] at hy
    rcases hy with rfl | rfl | rfl | rfl | rfl | rfl
    · exact ⟨1, rfl, by omega, by omega⟩
    · exact ⟨2, rfl, by omega, by omega⟩
    · exact ⟨3, rfl, by omega, by omega⟩
    · exact ⟨2, rfl, by omega, by omega⟩
    · exact ⟨4, rfl, by omega, by omega⟩
    · exact ⟨(1 + v).toNat, by congr 1; omega, by omega, by omega⟩
  obtain ⟨z, rfl, z0, z1⟩ := hy2
  have hl := (d1.trans d2).len
  exact ⟨z, S2, z0, z1, d1.trans d2, by simp [f__law_size, m__law_size, e1, e2, e3, ← hl]⟩
def T39 : Int := 10 ^ 39
theorem pow_39 (S : Sto) : pPow (.d (.int 10)) (.d (.int 39)) S = some (.d (.int T39)) := pow_g S (by decide +kernel)
theorem pick_ {S : Sto} {i : Nat} {ds : List PyData} (h : StrAt S i) (h0 : 0 < ds.length) (h1 : ds.length ≤ 1000) : ∃ (d : PyData) (S' : Sto), Dr S i S' ∧ d ∈ ds ∧ f__law_pick [.r i, .d (.list ds)] S = some (.ok (.d d) S') := by
  obtain ⟨v, S1, v0, v1, d1, e1⟩ := draw h (n := ds.length) (by omega) (by omega)
  obtain ⟨y, e2, hy⟩ := atI_in (ds := ds) v0 v1
  have hl := d1.len
  exact ⟨y, S1, d1, hy, by simp [f__law_pick, m__law_pick, e1, e2, ← hl]⟩
def oths1 : List PyData := [.none, .bool true, .bool false, .int (-1), .int 0, .int 1, .int 2, .int 15, .int 16, .int 17, .int 40, .int 41, .int T39, .int (0 - T39), .str (Str.ofString ""), .str (Str.ofString "a"), .str (Str.ofString "1"), .tuple [], .list [], .dict [], .tuple [.int 0]]
def oths2 : List PyData := [.tuple [.bool true], .tuple [.tuple []], .list [.int 1], .tuple [.int 1, .int 0], .tuple [.none], .dict [(.int 0, .int 1)], .tuple [.str (Str.ofString "1")], .tuple [.tuple [.int 1, .int 0]], .list [.tuple [.int 1]], .tuple [.int 0, .int (-1)], .tuple [.int 65536]]
def oths : List PyData := oths1 ++ oths2
theorem oths_sz : ∀ d ∈ oths, Sz 130 2 140 d := fun d h => Sz.of (List.all_eq_true.mp (show oths.all (smD 130 2 140) = true by decide +kernel) d h)
theorem oth1 (S : Sto) (x0 x1 : Option SV) : (sSet 1 (eCa dispL (esCons (eLit .none) (esCons (eLit (.bool true)) (esCons (eLit (.bool false)) (esCons (eNeg (eLit (.int 1))) (esCons (eLit (.int 0)) (esCons (eLit (.int 1)) (esCons (eLit (.int 2)) (esCons (eLit (.int 15)) (esCons (eLit (.int 16)) (esCons (eLit (.int 17)) (esCons (eLit (.int 40)) (esCons (eLit (.int 41)) (esCons (eBin pPow (eLit (.int 10)) (eLit (.int 39))) (esCons (eBin pSub (eLit (.int 0)) (eBin pPow (eLit (.int 10)) (eLit (.int 39)))) (esCons (eLit (.str (Str.ofString ""))) (esCons (eLit (.str (Str.ofString "a"))) (esCons (eLit (.str (Str.ofString "1"))) (esCons (eCa dispT esNil) (esCons (eCa dispL esNil) (esCons (eLit (.dict [])) (esCons (eCa dispT (esCons (eLit (.int 0)) esNil)) esNil))))))))))))))))))))))) [x0, x1] S = some (.nx [x0, some (.d (.list oths1))] S) := by
  simp [pow_39, oths1]
theorem oth2 (S : Sto) (x0 : Option SV) : (sSet 1 (eBin pPlus (eVar 1) (eCa dispL (esCons (eCa dispT (esCons (eLit (.bool true)) esNil)) (esCons (eCa dispT (esCons (eCa dispT esNil) esNil)) (esCons (eCa dispL (esCons (eLit (.int 1)) esNil)) (esCons (eCa dispT (esCons (eLit (.int 1)) (esCons (eLit (.int 0)) esNil))) (esCons (eCa dispT (esCons (eLit .none) esNil)) (esCons (eLit (.dict [(.int 0, .int 1)])) (esCons (eCa dispT (esCons (eLit (.str (Str.ofString "1"))) esNil)) (esCons (eCa dispT (esCons (eCa dispT (esCons (eLit (.int 1)) (esCons (eLit (.int 0)) esNil))) esNil)) (esCons (eCa dispL (esCons (eCa dispT (esCons (eLit (.int 1)) esNil)) esNil)) (esCons (eCa dispT (esCons (eLit (.int 0)) (esCons (eNeg (eLit (.int 1))) esNil))) (esCons (eCa dispT (esCons (eLit (.int 65536)) esNil)) esNil)))))))))))))) [x0, some (.d (.list oths1))] S = some (.nx [x0, some (.d (.list oths))] S) := by
  have hz : oths1.length + 11 ≤ sizeLine := sz_le (by decide +kernel)
  simp [oths, oths2, hz]
theorem other_ {S : Sto} {i : Nat} (h : StrAt S i) : ∃ (d : PyData) (S' : Sto), Dr S i S' ∧ d ∈ oths ∧ f__law_other [.r i] S = some (.ok (.d d) S') := by
  obtain ⟨y, S1, d1, hy, e1⟩ := pick_ (ds := oths) h (by decide +kernel) (by decide +kernel)
  have hl := d1.len
  refine ⟨y, S1, d1, hy, ?_⟩
  have hm : m__law_other [some (.r i), none] S = some (.rt (.d y) S1) := by
    unfold m__law_other
    rw [seq_nx (oth1 S _ _), seq_nx (oth2 S _)]
    simp [e1]
  simp [f__law_other, hm, ← hl]
end T
set_option maxRecDepth 100000
set_option maxHeartbeats 4000000
namespace T
open PySem PySem.Spec PyProof.Rows L2 Z
theorem word_log {w : Nat} {n : Int} (hw2 : w ≤ 16) (h : 0 ≤ n ∧ n < 2 ^ w) : n.natAbs.log2 ≤ 15 := by
  have := (pow_w hw2).2
  have h2 : n.natAbs < 2 ^ 16 := by omega
  have := log_lt (i := n) h2 (by omega)
  omega
theorem row_szs {w : Nat} (hw2 : w ≤ 16) : ∀ {ns : List Int}, wordsW w ns → Szs 16 0 (20 * ns.length) (ns.map .int)
  | [], _ => Szs.nil
  | n :: ns, h => by
    have h1 := word_log hw2 (h n List.mem_cons_self)
    have h2 := row_szs hw2 (ns := ns) fun m hm => h m (List.mem_cons_of_mem _ hm)
    exact (Szs.cons (Sz.int (b := 16) (dep := 0) (i := n) (by omega)) h2).mono (Nat.le_refl _) (Nat.le_refl _) (by rw [List.length_cons]; omega)
theorem v_log {x : Int} (h : x.natAbs < 262144) : ∀ {dep : Nat}, Sz 130 dep 140 (.int x) := fun {dep} => (Sz.int (b := 18) (dep := dep) (log_lt (n := 18) h (by omega))).mono (by omega) (Nat.le_refl _) (by omega)
/-- a word that is bent -/
theorem bent_int {S : Sto} {i n : Nat} {v : Int} (h : StrAt S i) (hv : 0 ≤ v ∧ v < 65536) :
    ∃ (d : PyData) (S' : Sto), Dr S i S' ∧ Sz 130 3 400 d ∧ f__law_bent (n + 1) [.r i, .d (.int v)] S = some (.ok (.d d) S') := by
  obtain ⟨o, S1, d1, ho, e1⟩ := other_ h
  obtain ⟨y, S2, d2, hy, e2⟩ := pick_ (ds := [PyData.int (v + 1), .int (v - 1), .int (0 - v), .int (2 * v), .str (Str.ofString (toString v)), .bool (PyData.eqv (.int v) (.int 1)), .none, .tuple [.int v], .list [.int v], .int 65536, o]) (d1.at h.lt) (by simp) (by simp)
  have hl := (d1.trans d2).len
  have h1 : v.natAbs.log2 < 18 := log_lt (n := 18) (by omega) (by omega)
  have hlog : v.natAbs.log2 < 1920 := by omega
  have q4 := Sz.str (b := 130) (dep := 3) (asc_int v)
  have q4l : (Str.ofString (toString v)).length ≤ 21 := Nat.le_trans (int_str_len v) (by omega)
  have qv : ∀ {dep}, Sz 130 dep 140 (.int v) := v_log (by omega)
  have q5 := (Szs.cons (qv (dep := 2)) Szs.nil (sz2 := 0)).tup
  have q6 := (Szs.cons (qv (dep := 2)) Szs.nil (sz2 := 0)).lst
  have hq : ∀ d ∈ [PyData.int (v + 1), .int (v - 1), .int (0 - v), .int (2 * v), .str (Str.ofString (toString v)), .bool (PyData.eqv (.int v) (.int 1)), .none, .tuple [.int v], .list [.int v], .int 65536, o], Sz 130 3 400 d :=
    forall_cons ((v_log (by omega)).mono (Nat.le_refl _) (Nat.le_refl _) (by omega)) <| forall_cons ((v_log (by omega)).mono (Nat.le_refl _) (Nat.le_refl _) (by omega)) <| forall_cons ((v_log (by omega)).mono (Nat.le_refl _) (Nat.le_refl _) (by omega)) <| forall_cons ((v_log (by omega)).mono (Nat.le_refl _) (Nat.le_refl _) (by omega)) <|
    forall_cons (q4.mono (Nat.le_refl _) (Nat.le_refl _) (by omega)) <| forall_cons (Sz.bool.mono (b := 130) (dep := 3) (Nat.le_refl _) (Nat.le_refl _) (by omega)) <| forall_cons (Sz.none.mono (b := 130) (dep := 3) (Nat.le_refl _) (Nat.le_refl _) (by omega)) <| forall_cons (q5.mono (by omega) (by omega) (by omega)) <| forall_cons (q6.mono (by omega) (by omega) (by omega)) <|
    forall_cons (szc (b' := 20) (dep' := 0) (sz' := 20) (by decide +kernel)) <| forall_cons ((oths_sz o ho).mono (by omega) (by omega) (by omega)) forall_nil
  refine ⟨y, S2, d1.trans d2, hq y hy, ?_⟩
  have hoq : okQ (.int v) (.int 1) := okQ_of (okD_int _) (okD_int _)
  have k2 : short 2 := by unfold short; omega
  simp only [Int.zero_sub] at e2
  rw [show toString v = v.repr from rfl] at e2
  simp [f__law_bent, m__law_bent, hlog, hoq, e1, k2, sz_le, e2, ← hl]
/-- a bend within -/
theorem bent_in {S : Sto} {i n : Nat} {ns : List Int} {w : Nat} (h : StrAt S i) (hw2 : w ≤ 16) (hns : wordsW w ns) (h0 : 0 < ns.length) (h4 : ns.length ≤ 40) {S0 : Sto} {u : Int} (d0 : Dr S i S0) (u1 : 0 < u)
    (e0 : f__law_draw [.r i, .d (.int 3)] S = some (.ok (.d (.int u)) S0)) :
    ∃ (d : PyData) (S' : Sto), Dr S i S' ∧ Sz 130 4 2100 d ∧ f__law_bent (n + 2) [.r i, .d (tupI ns)] S = some (.ok (.d d) S') := by
  have hz := (row_szs hw2 hns).mono (b' := 130) (dep' := 3) (sz' := 800) (by omega) (by omega) (by omega)
  have hlen : (ns.map PyData.int).length = ns.length := by simp
  obtain ⟨at_, S1, a0, a1, d1, e1⟩ := draw (d0.at h.lt) (n := ns.length) (by omega) (by omega)
  obtain ⟨y, e2, hy⟩ := atI_in (ds := ns.map PyData.int) a0 (by rw [hlen]; exact a1)
  obtain ⟨x, hx, rfl⟩ := List.mem_map.mp hy
  have hp := pow_w hw2
  have hxb := hns x hx
  obtain ⟨d, S2, d2, hd2, e3⟩ := bent_int (n := n) (v := x) (d1.at (d0.at h.lt).lt) (by omega)
  have hl := ((d0.trans d1).trans d2).len
  have c1 := hz.cut none (some at_)
  have c2 := hz.cut (some (at_ + 1)) none
  have key := ((c1.app (Szs.cons hd2 Szs.nil (sz2 := 0))).app c2).tup
  have y1 := c1.len
  have y2 := c2.len
  have z1 : (Z.cutD (ns.map PyData.int) none (some at_)).length + 1 ≤ sizeLine := by rw [sizeLine_eq]; omega
  have z2 : (Z.cutD (ns.map PyData.int) none (some at_)).length + (1 + (Z.cutD (ns.map PyData.int) (some (at_ + 1)) none).length) ≤ sizeLine := by rw [sizeLine_eq]; omega
  have z3 : (Z.cutD (ns.map PyData.int) none (some at_)).length + 1 + (Z.cutD (ns.map PyData.int) (some (at_ + 1)) none).length ≤ sizeLine := by omega
  refine ⟨.tuple (Z.cutD (ns.map PyData.int) none (some at_) ++ [d] ++ Z.cutD (ns.map PyData.int) (some (at_ + 1)) none), S2, (d0.trans d1).trans d2, key.mono (Nat.le_refl _) (by omega) (by omega), ?_⟩
  have em : PyData.eqv (.tuple (ns.map PyData.int)) (.tuple []) = false := by
    cases ns with
    | nil => simp at h0
    | cons x xs => simp [PyData.eqv, PyData.eqvAll]
  generalize hq : ns.map PyData.int = ds at *
  have e1 : f__law_draw [.r i, .d (.int ds.length)] S0 = some (.ok (.d (.int at_)) S1) := by rw [hlen]; exact e1
  rw [show n + 2 = (n + 1) + 1 from rfl]
  generalize n + 1 = m at e3 ⊢
  simp only [tupI, hq, f__law_bent]
  simp [m__law_bent, em, e0, u1, e1, e2, e3, z1, z2, z3, ← hl, List.append_assoc]
/-- a tuple that is bent as a whole -/
theorem bent_out {S : Sto} {i n : Nat} {ns : List Int} {w : Nat} (h : StrAt S i) (hw2 : w ≤ 16) (hns : wordsW w ns) (h0 : 0 < ns.length) (h4 : ns.length ≤ 40) {S0 : Sto} (d0 : Dr S i S0)
    (e0 : f__law_draw [.r i, .d (.int 3)] S = some (.ok (.d (.int 0)) S0)) :
    ∃ (d : PyData) (S' : Sto), Dr S i S' ∧ Sz 130 5 2100 d ∧ f__law_bent (n + 1) [.r i, .d (tupI ns)] S = some (.ok (.d d) S') := by
  have hz := (row_szs hw2 hns).mono (b' := 130) (dep' := 3) (sz' := 800) (by omega) (by omega) (by omega)
  have em : PyData.eqv (.tuple (ns.map PyData.int)) (.tuple []) = false := by
    cases ns with
    | nil => simp at h0
    | cons x xs => simp [PyData.eqv, PyData.eqvAll]
  simp only [tupI]
  generalize hq : ns.map PyData.int = ds at *
  obtain ⟨o, S1, d1, ho, e1⟩ := other_ (d0.at h.lt)
  obtain ⟨y, S2, d2, hy, e2⟩ := pick_ (ds := [PyData.list ds, .tuple (Z.cutD ds none (some (-1))), .tuple (ds ++ Z.cutD ds (some (-1)) none), .tuple (Z.cutD ds (some 1) none), .tuple (ds ++ [.int 0]), .tuple [.tuple ds], .tuple ds.reverse, .tuple [], .none, o]) (d1.at (d0.at h.lt).lt) (by simp) (by simp)
  have hl := ((d0.trans d1).trans d2).len
  have c1 := hz.cut none (some (-1))
  have c2 := hz.cut (some (-1)) none
  have c3 := hz.cut (some 1) none
  have n0 : Szs 130 3 5 [PyData.int 0] := Szs.cons ((Sz.of (d := .int 0) (b := 1) (dep := 0) (sz := 3) (by decide +kernel)).mono (by omega) (by omega) (Nat.le_refl _)) Szs.nil (sz2 := 0)
  have hQ : ∀ d ∈ [PyData.list ds, .tuple (Z.cutD ds none (some (-1))), .tuple (ds ++ Z.cutD ds (some (-1)) none), .tuple (Z.cutD ds (some 1) none), .tuple (ds ++ [.int 0]), .tuple [.tuple ds], .tuple ds.reverse, .tuple [], .none, o], Sz 130 5 2100 d :=
    forall_cons (hz.lst.mono (Nat.le_refl _) (by omega) (by omega)) <| forall_cons (c1.tup.mono (Nat.le_refl _) (by omega) (by omega)) <| forall_cons ((hz.app c2).tup.mono (Nat.le_refl _) (by omega) (by omega)) <| forall_cons (c3.tup.mono (Nat.le_refl _) (by omega) (by omega)) <|
    forall_cons ((hz.app n0).tup.mono (Nat.le_refl _) (by omega) (by omega)) <| forall_cons ((Szs.cons hz.tup Szs.nil (sz2 := 0)).tup.mono (Nat.le_refl _) (by omega) (by omega)) <| forall_cons (hz.rev.tup.mono (Nat.le_refl _) (by omega) (by omega)) <|
    forall_cons (Szs.nil.tup (sz := 0) (dep := 0) (b := 130) |>.mono (Nat.le_refl _) (by omega) (by omega)) <| forall_cons (Sz.none.mono (Nat.le_refl _) (Nat.zero_le _) (by omega)) <| forall_cons ((oths_sz o ho).mono (by omega) (by omega) (by omega)) forall_nil
  refine ⟨y, S2, (d0.trans d1).trans d2, hQ y hy, ?_⟩
  have y0 := hz.len
  have y1 := c1.len
  have y2 := c2.len
  have y3 := c3.len
  have z1 : ds.length + (Z.cutD ds (some (-1)) none).length ≤ sizeLine := by rw [sizeLine_eq]; omega
  have z2 : ds.length + 1 ≤ sizeLine := by rw [sizeLine_eq]; omega
  have z3 : ds.length ≤ sizeLine := by omega
  have hm : m__law_bent (f__law_bent n) [some (.r i), some (.d (.tuple ds)), none, none] S = some (.rt (.d y) S2) := by
    unfold m__law_bent
    rw [seq_nx (σ' := [some (.r i), some (.d (.tuple ds)), none, none]) (S' := S0) (by simp [em, e0])]
    simp [e1, e2, z1, z2, z3, sz_le]
  simp [f__law_bent, hm, ← hl]
theorem bent_vec {S : Sto} {i w : Nat} {ns : List Int} (h : StrAt S i) (hw2 : w ≤ 16) (hns : wordsW w ns) (h0 : 0 < ns.length) (h4 : ns.length ≤ 40) :
    ∃ (d : PyData) (S' : Sto), Dr S i S' ∧ Sz 130 5 2100 d ∧ f__law_bent 8 [.r i, .d (tupI ns)] S = some (.ok (.d d) S') := by
  obtain ⟨u, S0, u0, u1, d0, e0⟩ := draw h (n := 3) (by omega) (by omega)
  by_cases hu : 0 < u
  · obtain ⟨d, S', q1, q2, q3⟩ := bent_in (n := 6) h hw2 hns h0 h4 d0 hu e0
    exact ⟨d, S', q1, q2.mono (Nat.le_refl _) (by omega) (Nat.le_refl _), q3⟩
  · have hu0 : u = 0 := by omega
    subst hu0
    exact bent_out (n := 7) h hw2 hns h0 h4 d0 e0
end T
set_option maxRecDepth 100000
set_option maxHeartbeats 4000000
namespace T
open PySem PySem.Spec PyProof.Rows L2 Z
theorem lay_asc {x : Str} (h : asc x = true) : PyData.canLay0 (.str x) = true := by
  simp only [PyData.canLay0, PyData.strOk]
  rw [← Array.all_toList]
  simp only [asc, List.all_eq_true, decide_eq_true_eq] at h ⊢
  intro c hc
  have := h c hc
  omega
theorem okD_strs {xs : List Str} (h : ∀ x ∈ xs, asc x = true) : okD (.list (xs.map .str)) = true := by
  unfold okD SeqAt.shaped
  have h1 : PyData.canLayAll0 (xs.map .str) = true := by
    induction xs with
    | nil => simp [PyData.canLayAll0]
    | cons x xs ih => simp [PyData.canLayAll0, lay_asc (h x List.mem_cons_self), ih fun y hy => h y (List.mem_cons_of_mem _ hy)]
  have h2 : PyData.depthAll (xs.map .str) = 0 := by
    clear h h1
    induction xs with
    | nil => simp [PyData.depthAll]
    | cons x xs ih => simp [PyData.depthAll, PyData.depth, ih]
  simp [PyData.canLay0, PyData.depth, h1, h2]
theorem eqv_strs (xs : List Str) : PyData.eqv (.list (xs.map .str)) (.list (xs.map .str)) = true := eqv_self _ (by
  simp only [PyData.hasDict]
  induction xs with
  | nil => simp [PyData.hasDictAll]
  | cons x xs ih => simp [PyData.hasDictAll, PyData.hasDict, ih])
theorem app_getS {S : Sto} {o : Ob} {j : Nat} {x : Ob} (h : S[j]? = some x) : (S ++ [o])[j]? = some x := by
  rw [List.getElem?_append_left (List.getElem?_eq_some_iff.mp h).1]; exact h
theorem hand_eq {i : Nat} {q : Str} {P : Addr} {gth : Th → Sto → Option FR} {ee : Ex} {σ : Sg} {S S' : Sto} {v : SV} (hT : S[i]? = some (.tab q P)) (h : gth (thOf (ee σ)) S = some (.ok v S')) : eHand i q P gth ee σ S = some (.ok v S') := by
  unfold eHand
  rw [hT]
  simp [h]
theorem Dr.get {S S' : Sto} {i j : Nat} (h : Dr S i S') (hj : j ≠ i) : S'[j]? = S[j]? := by
  obtain ⟨a, b, c, _, rfl⟩ := h
  exact List.getElem?_set_ne (Ne.symm hj)
/-! ## a value that is none of these -/
noncomputable abbrev badB (p c : Addr) (q : Str) (ee : Ex) : Sm := (sIf (tVal (ePr p c q 1 ee (esCons (eVar 2) esNil))) (sSet 2 (eCall f__law_other (esCons (eVar 0) esNil))) sNil)
theorem bad_go {i : Nat} {ee : Ex} {good : PyData → Bool} (hee : ∀ v T, pOf ee (.d v) T = some (.bool (good v), T)) : ∀ (ds : List PyData) (v : PyData) (S : Sto), v ∈ oths → StrAt S i →
    ∃ (v' : PyData) (S' : Sto), v' ∈ oths ∧ Dr S i S' ∧ ∀ p c q x, ∃ x', forGo none (gVar 3) (badB p c q ee) ds [some (.r i), some (svP p c q), some (.d v), x] S = some (.nx [some (.r i), some (svP p c q), some (.d v'), x'] S')
  | [], v, S, hv, h => ⟨v, S, hv, Dr.self h, fun p c q x => ⟨x, by simp [forGo, gdOk]⟩⟩
  | d :: ds, v, S, hv, h => by
    cases hg : good v with
    | true =>
      obtain ⟨o, S1, d1, ho, e1⟩ := other_ h
      obtain ⟨v', S2, h1, h2, h3⟩ := bad_go hee ds o S1 ho (d1.at h.lt)
      refine ⟨v', S2, h1, d1.trans h2, fun p c q x => ?_⟩
      obtain ⟨x', h4⟩ := h3 p c q (some (.d d))
      exact ⟨x', by simp [forGo, gdOk, hee, hg, e1, h4]⟩
    | false =>
      obtain ⟨v', S2, h1, h2, h3⟩ := bad_go hee ds v S hv h
      refine ⟨v', S2, h1, h2, fun p c q x => ?_⟩
      obtain ⟨x', h4⟩ := h3 p c q (some (.d d))
      exact ⟨x', by simp [forGo, gdOk, hee, hg, h4]⟩
theorem bad_ {S : Sto} {i : Nat} {ee : Ex} {good : PyData → Bool} (h : StrAt S i) (hee : ∀ v T, pOf ee (.d v) T = some (.bool (good v), T)) (hn : good .none = false) :
    ∃ (y : PyData) (S' : Sto), Dr S i S' ∧ y ∈ oths ∧ good y = false ∧ g__law_bad ee (.r i) S = some (.ok (.d y) S') := by
  obtain ⟨o, S1, d1, ho, e1⟩ := other_ h
  obtain ⟨v, S2, hv, d2, h3⟩ := bad_go hee (upTo 0 40) o S1 ho (d1.at h.lt)
  have hl := (d1.trans d2).len
  have h62 : small62 40 := by unfold small62; omega
  have hN : PyData.none ∈ oths := List.mem_append_left _ List.mem_cons_self
  refine ⟨if good v = true then .none else v, S2, d1.trans d2, by split <;> assumption, by split <;> simp_all, runP_eq fun p c q => ?_⟩
  obtain ⟨x', h4⟩ := h3 p c q none
  have hm : m__law_bad p c q ee [some (.r i), some (svP p c q), none, none] S = some (.rt (.d (if good v = true then .none else v)) S2) := by
    unfold m__law_bad
    rw [seq_nx (σ' := [some (.r i), some (svP p c q), some (.d o), none]) (S' := S1) (by simp [e1])]
    rw [seq_nx (σ' := [some (.r i), some (svP p c q), some (.d v), x']) (S' := S2) (by
      show Sm.bnd ((wRng1 (eLit (.int 40))) [some (.r i), some (svP p c q), some (.d o), none] S1) (fun wk S1 => forGo wk.own (gVar 3) (badB p c q ee) wk.ds [some (.r i), some (svP p c q), some (.d o), none] S1) = _
      rw [show (wRng1 (eLit (.int 40))) [some (.r i), some (svP p c q), some (.d o), none] S1 = some (.ok ⟨upTo 0 40, none⟩ S1) by simp [h62]]
      exact h4)]
    cases hg : good v <;> simp [hee, hg]
  simp only [fnRun, List.map_cons, List.map_nil, List.cons_append, List.nil_append, List.replicate]
  rw [hm]
  simp [← hl]
theorem pred_width (v : PyData) (T : Sto) : pOf (eAnd (eCall f__law_is_word (esCons (eLit (.int 5)) (esCons (eVar 0) esNil))) (eChain pLe pLe (eLit (.int 1)) (eVar 0) (eLit (.int 16)))) (.d v) T = some (.bool (inWidth v), T) := by
  have e : f__law_is_word [.d (.int 5), .d v] T = some (.ok (.d (.bool (isWord 5 v))) T) := l_is_word (w := 5) (by omega) v
  unfold pOf
  cases v <;> simp [e, isWord, inWidth]
  rename_i i
  by_cases h1 : 0 ≤ i ∧ i < 32
  · by_cases h2 : 1 ≤ i
    · by_cases h3 : i ≤ 16 <;> simp [h1, h2, h3]
    · simp [h1, h2]
  · have : ¬ (1 ≤ i ∧ i ≤ 16) := by omega
    simp only [not_and] at h1 this
    by_cases h0 : 0 ≤ i
    · have h3 : ¬ i < 32 := h1 h0
      have h4 : ¬ i ≤ 16 := by omega
      simp [h0, h3, h4]
    · have h4 : ¬ 1 ≤ i := by omega
      simp [h0, h4]
theorem pred_size (v : PyData) (T : Sto) : pOf (eAnd (eCall f__law_is_word (esCons (eLit (.int 6)) (esCons (eVar 0) esNil))) (eChain pLe pLe (eLit (.int 1)) (eVar 0) (eLit (.int 40)))) (.d v) T = some (.bool (inSize v), T) := by
  have e : f__law_is_word [.d (.int 6), .d v] T = some (.ok (.d (.bool (isWord 6 v))) T) := l_is_word (w := 6) (by omega) v
  unfold pOf
  cases v <;> simp [e, isWord, inSize]
  rename_i i
  by_cases h1 : 0 ≤ i ∧ i < 64
  · by_cases h2 : 1 ≤ i
    · by_cases h3 : i ≤ 40 <;> simp [h1, h2, h3]
    · simp [h1, h2]
  · have : ¬ (1 ≤ i ∧ i ≤ 40) := by omega
    simp only [not_and] at h1 this
    by_cases h0 : 0 ≤ i
    · have h3 : ¬ i < 64 := h1 h0
      have h4 : ¬ i ≤ 40 := by omega
      simp [h0, h3, h4]
    · have h4 : ¬ 1 ≤ i := by omega
      simp [h0, h4]
/-- the tables -/
structure Tb (tp : Nat → Addr) (S : Sto) : Prop where
  t0 : S[0]? = some (.tab (lamQ (Str.ofString "_law_bad_width")) (tp 0))
  t1 : S[1]? = some (.tab (lamQ (Str.ofString "_law_bad_size")) (tp 1))
  t2 : S[2]? = some (.tab (lamQ (Str.ofString "_law_word_right")) (tp 2))
  t3 : S[3]? = some (.tab (lamQ (Str.ofString "_law_bad_word")) (tp 3))
  t4 : S[4]? = some (.tab (lamQ (Str.ofString "_law_errors_right")) (tp 4))
  t5 : S[5]? = some (.tab (lamQ (Str.ofString "_law_long_right")) (tp 5))
theorem Tb.dr {tp : Nat → Addr} {S S' : Sto} {i : Nat} (t : Tb tp S) (d : Dr S i S') (hi : 6 ≤ i) : Tb tp S' :=
  ⟨by rw [d.get (by omega)]; exact t.t0, by rw [d.get (by omega)]; exact t.t1, by rw [d.get (by omega)]; exact t.t2, by rw [d.get (by omega)]; exact t.t3, by rw [d.get (by omega)]; exact t.t4, by rw [d.get (by omega)]; exact t.t5⟩
theorem Tb.app {tp : Nat → Addr} {S : Sto} {o : Ob} (t : Tb tp S) : Tb tp (S ++ [o]) := ⟨app_getS t.t0, app_getS t.t1, app_getS t.t2, app_getS t.t3, app_getS t.t4, app_getS t.t5⟩
theorem handP_eq {i j : Nat} {q : Str} {P : Addr} {gth : Ex → SV → Sto → Option FR} {ee : Ex} {σ : Sg} {S S' : Sto} {v : SV} (hσ : σ[0]? = some (some (.r j))) (hT : S[i]? = some (.tab q P)) (h : gth ee (.r j) S = some (.ok v S')) : eHandP i q P gth ee (eVar 0) σ S = some (.ok v S') := by
  unfold eHandP
  simp [hσ, hT, h]
theorem bad_width {S : Sto} {i : Nat} {tp : Nat → Addr} (h : StrAt S i) (t : Tb tp S) : ∃ (y : PyData) (S' : Sto), Dr S i S' ∧ y ∈ oths ∧ inWidth y = false ∧ f__law_bad_width tp [.r i] S = some (.ok (.d y) S') := by
  obtain ⟨y, S', d1, h1, h2, h3⟩ := bad_ h pred_width rfl
  have hl := d1.len
  have e := handP_eq (σ := [some (.r i)]) rfl t.t0 h3
  refine ⟨y, S', d1, h1, h2, ?_⟩
  simp only [f__law_bad_width, m__law_bad_width, fnRun, List.map_cons, List.map_nil, List.cons_append, List.nil_append, List.replicate, sRet, e]
  simp [← hl]
theorem bad_size {S : Sto} {i : Nat} {tp : Nat → Addr} (h : StrAt S i) (t : Tb tp S) : ∃ (y : PyData) (S' : Sto), Dr S i S' ∧ y ∈ oths ∧ inSize y = false ∧ f__law_bad_size tp [.r i] S = some (.ok (.d y) S') := by
  obtain ⟨y, S', d1, h1, h2, h3⟩ := bad_ h pred_size rfl
  have hl := d1.len
  have e := handP_eq (σ := [some (.r i)]) rfl t.t1 h3
  refine ⟨y, S', d1, h1, h2, ?_⟩
  simp only [f__law_bad_size, m__law_bad_size, fnRun, List.map_cons, List.map_nil, List.cons_append, List.nil_append, List.replicate, sRet, e]
  simp [← hl]
/-! ## how an error is told -/
theorem lk1 : List.lookup (Str.ofString "InvalidWidth") so_l_InvalidNumber = some false := by decide +kernel
theorem lk2 : List.lookup (Str.ofString "InvalidWidth") so_l_WordsError = some true := by decide +kernel
theorem lk3 : List.lookup (Str.ofString "InvalidWidth") so_l_InvalidWidth = some true := by decide +kernel
theorem lk4 : List.lookup (Str.ofString "InvalidWidth") so_l_InvalidVector = some false := by decide +kernel
theorem lk5 : List.lookup (Str.ofString "InvalidWidth") so_l_InvalidBasis = some false := by decide +kernel
theorem lk6 : List.lookup (Str.ofString "InvalidNumber") so_l_InvalidNumber = some true := by decide +kernel
theorem lk7 : List.lookup (Str.ofString "InvalidNumber") so_l_WordsError = some false := by decide +kernel
theorem rf_width {S : Sto} {th : Th} (h : th S = some (.exc ⟨Str.ofString "InvalidWidth", none⟩ S)) : g__law_refusal th S = some (.ok (.d (.str (Str.ofString "width"))) S) := by
  refine runT_eq fun p c q tl => ?_
  have hk : runK 3 1 (fun a cls d => (sSeq (sSet 2 (eCa dispL (esCons (eIsX a cls d (fun z => List.lookup z so_l_InvalidWidth) (eVar 1)) (esCons (eIsX a cls d (fun z => List.lookup z so_l_InvalidVector) (eVar 1)) (esCons (eIsX a cls d (fun z => List.lookup z so_l_InvalidBasis) (eVar 1)) esNil)))))
    (sRet (eIf (tVal (eBin pEq (eM2 pCnt (eVar 2) (eLit (.bool true))) (eLit (.int 1)))) (eBin pIx (eCa dispL (esCons (eLit (.str (Str.ofString "width"))) (esCons (eLit (.str (Str.ofString "vector"))) (esCons (eLit (.str (Str.ofString "basis"))) esNil)))) (eM2 pIdx (eVar 2) (eLit (.bool true)))) (eLit (.str (Str.ofString "other"))))))) ⟨Str.ofString "InvalidWidth", none⟩ S = some (.rt (.d (.str (Str.ofString "width"))) S) := by
    refine runK_eq fun a cls d => ?_
    simp [lk3, lk4, lk5, eM2, flatD, PyData.eqv, okD_int, ixOf, atI, ixN, forgetF, List.replicate]
  unfold fnRun
  have hm : m__law_refusal p c q tl ([SV.t p c q tl th].map some ++ List.replicate 2 none) S = some (.rt (.d (.str (Str.ofString "width"))) S) := by
    unfold m__law_refusal
    simp only [lk1, lk2, sSeq, sTry, pickC, hk, sTh, List.map_cons, List.map_nil, List.cons_append, List.nil_append, List.getElem?_cons_zero, h, and_self, if_true]
  rw [hm]
  simp
theorem rf_number {S : Sto} {th : Th} {v : PyData} (h : th S = some (.exc ⟨Str.ofString "InvalidNumber", some (Str.ofString "value", v)⟩ S)) (hv : okR v) (hz : 7 + v.shown.length ≤ sizeLine) : g__law_refusal th S = some (.ok (.d (.str (Str.ofString "number " ++ v.shown))) S) := by
  refine runT_eq fun p c q tl => ?_
  have z1 : (Str.ofString "number ").length = 7 := rfl
  have hk : runK 3 1 (fun a cls d => (sRet (eIf (tNt (tVal (eIsX a cls d (fun z => List.lookup z so_l_WordsError) (eVar 1)))) (eBin pPlus (eLit (.str (Str.ofString "number "))) (eCa pRepr (esCons (eFld a cls d (Str.ofString "value") (fun z => z == (Str.ofString "InvalidNumber")) (eVar 1)) esNil))) (eLit (.str (Str.ofString "other")))))) ⟨Str.ofString "InvalidNumber", some (Str.ofString "value", v)⟩ S = some (.rt (.d (.str (Str.ofString "number " ++ v.shown))) S) := by
    refine runK_eq fun a cls d => ?_
    simp [lk7, hv, z1, hz, forgetF, List.replicate]
  unfold fnRun
  have hm : m__law_refusal p c q tl ([SV.t p c q tl th].map some ++ List.replicate 2 none) S = some (.rt (.d (.str (Str.ofString "number " ++ v.shown))) S) := by
    unfold m__law_refusal
    simp only [lk6, sSeq, sTry, pickC, hk, sTh, List.map_cons, List.map_nil, List.cons_append, List.nil_append, List.getElem?_cons_zero, h, and_self, if_true]
  rw [hm]
  simp
theorem hand_width {k : Nat} {q : Str} {P : Addr} {ee : Ex} {σ : Sg} {S : Sto} (hT : S[k]? = some (.tab q P)) (h : ee σ S = some (.exc ⟨Str.ofString "InvalidWidth", none⟩ S)) : eHand k q P g__law_refusal ee σ S = some (.ok (.d (.str (Str.ofString "width"))) S) :=
  hand_eq hT (rf_width (by unfold thOf; rw [h]))
theorem hand_number {k : Nat} {q : Str} {P : Addr} {ee : Ex} {σ : Sg} {S : Sto} {v : PyData} (hT : S[k]? = some (.tab q P)) (h : ee σ S = some (.exc ⟨Str.ofString "InvalidNumber", some (Str.ofString "value", v)⟩ S)) (hv : okR v) (hz : 7 + v.shown.length ≤ sizeLine) : eHand k q P g__law_refusal ee σ S = some (.ok (.d (.str (Str.ofString "number " ++ v.shown))) S) :=
  hand_eq hT (rf_number (by unfold thOf; rw [h]) hv hz)
theorem lk8 : List.lookup (Str.ofString "InvalidVector") so_l_InvalidNumber = some false := by decide +kernel
theorem lk9 : List.lookup (Str.ofString "InvalidVector") so_l_WordsError = some true := by decide +kernel
theorem lk10 : List.lookup (Str.ofString "InvalidVector") so_l_InvalidWidth = some false := by decide +kernel
theorem lk11 : List.lookup (Str.ofString "InvalidVector") so_l_InvalidVector = some true := by decide +kernel
theorem lk12 : List.lookup (Str.ofString "InvalidVector") so_l_InvalidBasis = some false := by decide +kernel
theorem rf_vector {S : Sto} {th : Th} (h : th S = some (.exc xV S)) : g__law_refusal th S = some (.ok (.d (.str (Str.ofString "vector"))) S) := by
  refine runT_eq fun p c q tl => ?_
  have hk : runK 3 1 (fun a cls d => (sSeq (sSet 2 (eCa dispL (esCons (eIsX a cls d (fun z => List.lookup z so_l_InvalidWidth) (eVar 1)) (esCons (eIsX a cls d (fun z => List.lookup z so_l_InvalidVector) (eVar 1)) (esCons (eIsX a cls d (fun z => List.lookup z so_l_InvalidBasis) (eVar 1)) esNil)))))
    (sRet (eIf (tVal (eBin pEq (eM2 pCnt (eVar 2) (eLit (.bool true))) (eLit (.int 1)))) (eBin pIx (eCa dispL (esCons (eLit (.str (Str.ofString "width"))) (esCons (eLit (.str (Str.ofString "vector"))) (esCons (eLit (.str (Str.ofString "basis"))) esNil)))) (eM2 pIdx (eVar 2) (eLit (.bool true)))) (eLit (.str (Str.ofString "other"))))))) xV S = some (.rt (.d (.str (Str.ofString "vector"))) S) := by
    refine runK_eq fun a cls d => ?_
    simp [lk10, lk11, lk12, eM2, flatD, PyData.eqv, okD_int, ixOf, atI, ixN, forgetF, List.replicate]
  unfold fnRun
  have hm : m__law_refusal p c q tl ([SV.t p c q tl th].map some ++ List.replicate 2 none) S = some (.rt (.d (.str (Str.ofString "vector"))) S) := by
    unfold m__law_refusal
    simp only [lk8, lk9, sSeq, sTry, pickC, hk, sTh, List.map_cons, List.map_nil, List.cons_append, List.nil_append, List.getElem?_cons_zero, h, and_self, if_true]
  rw [hm]
  simp
theorem hand_vector {k : Nat} {q : Str} {P : Addr} {ee : Ex} {σ : Sg} {S : Sto} (hT : S[k]? = some (.tab q P)) (h : ee σ S = some (.exc xV S)) : eHand k q P g__law_refusal ee σ S = some (.ok (.d (.str (Str.ofString "vector"))) S) :=
  hand_eq hT (rf_vector (by unfold thOf; rw [h]))
end T
set_option maxRecDepth 100000
set_option maxHeartbeats 4000000
namespace T
open PySem PySem.Spec PyProof.Rows L2 Z
/-! ## the level of a word -/
def low (n : Nat) : Nat := n - (n &&& (n - 1))
def lowB (n : Nat) : Bool := n == 0 || (low n != 0 && n % 2 ^ (low n).log2 == 0 && n % (2 * 2 ^ (low n).log2) != 0)
theorem low_all : ((List.range 256).all fun a => (List.range 256).all fun b => lowB (256 * a + b)) = true := by decide +kernel
theorem low_ok {n : Nat} (h0 : 0 < n) (h : n < 65536) : low n ≠ 0 ∧ n % 2 ^ (low n).log2 = 0 ∧ n % (2 * 2 ^ (low n).log2) ≠ 0 := by
  have h1 := List.all_eq_true.mp (List.all_eq_true.mp low_all (n / 256) (List.mem_range.mpr (by omega))) (n % 256) (List.mem_range.mpr (by omega))
  rw [show 256 * (n / 256) + n % 256 = n by omega] at h1
  simp only [lowB, Bool.or_eq_true, Bool.and_eq_true, bne_iff_ne, beq_iff_eq] at h1
  rcases h1 with h1 | ⟨⟨h1, h2⟩, h3⟩
  · omega
  · exact ⟨h1, h2, h3⟩
def lev (w : Nat) (x : Int) : Nat := if x = 0 then w else (low x.toNat).log2
theorem and_neg {x : Int} (h : 0 < x) : Builtin.bitAnd x (-x) = ((low x.toNat : Nat) : Int) := by
  have h1 : Builtin.bitAnd x (-x) = x - ((x.toNat &&& (Builtin.bitNot (-x)).toNat : Nat) : Int) := by
    unfold Builtin.bitAnd
    rw [show decide (0 ≤ x) = true from decide_eq_true (by omega), show decide (0 ≤ -x) = false from decide_eq_false (by omega)]
  rw [h1]
  have h2 : (Builtin.bitNot (-x)).toNat = x.toNat - 1 := by unfold Builtin.bitNot; omega
  rw [h2]
  have h3 : x.toNat &&& (x.toNat - 1) ≤ x.toNat := Nat.and_le_left
  unfold low
  omega
theorem bits_pos {n : Nat} (h : n ≠ 0) : ((Builtin.Int.intBits (n : Int) : Nat) : Int) - 1 = (n.log2 : Nat) := by
  have e : ((n : Int) == 0) = false := by simp [h]
  unfold Builtin.Int.intBits
  rw [e]
  simp
theorem p_level {S : Sto} {w : Nat} {x : Int} (hw2 : w ≤ 16) (h0 : 0 ≤ x) (h1 : x < 2 ^ w) : f_level [.d (.int w), .d (.int x)] S = some (.ok (.d (.int (lev w x))) S) := by
  have hp := pow_w hw2
  by_cases hx : x = 0
  · subst hx
    simp [f_level, m_level, lev, okD_int, PyData.eqv]
  · have ha := and_neg (x := x) (by omega)
    have hb := bits_pos (n := low x.toNat) (low_ok (by omega) (by omega)).1
    simp [f_level, m_level, lev, hx, okD_int, PyData.eqv, ha, hb]
theorem isW {w : Nat} {x : Int} (h0 : 0 ≤ x) (h1 : x < 2 ^ w) : isWord w (.int x) = true := by simp [isWord, h0, h1]
theorem p_word_level {S : Sto} {w : Nat} {x : Int} (hw : 1 ≤ w) (hw2 : w ≤ 16) (h0 : 0 ≤ x) (h1 : x < 2 ^ w) : f_word_level [.d (.int w), .d (.int x)] S = some (.ok (.d (.int (lev w x))) S) := by
  simp [f_word_level, m_word_level, p_ok_width hw hw2, p_ok_word hw2 (isW h0 h1), p_level hw2 h0 h1]
theorem lev_facts {w : Nat} {x : Int} (hw : 1 ≤ w) (hw2 : w ≤ 16) (h0 : 0 ≤ x) (h1 : x < 2 ^ w) : lev w x ≤ w ∧ (∀ l, l < lev w x → x % (2 * 2 ^ l) = 0) ∧ (lev w x = w ∨ x % (2 * 2 ^ lev w x) ≠ 0) := by
  have hp := pow_w hw2
  unfold lev
  by_cases hx : x = 0
  · subst hx
    simp
  · rw [if_neg hx]
    obtain ⟨e1, e2, e3⟩ := low_ok (n := x.toNat) (by omega) (by omega)
    have hxn : ((x.toNat : Nat) : Int) = x := by omega
    generalize (low x.toNat).log2 = t at e2 e3 ⊢
    have hpow : ∀ k : Nat, ((2 ^ k : Nat) : Int) = 2 ^ k := fun k => by rw [Int.natCast_pow]; rfl
    have htw : t < w := by
      have hle : 2 ^ t ≤ x.toNat := Nat.le_of_dvd (by omega) (Nat.dvd_of_mod_eq_zero e2)
      have hlt : x.toNat < 2 ^ w := by have := hpow w; omega
      exact (Nat.pow_lt_pow_iff_right (by omega)).mp (Nat.lt_of_le_of_lt hle hlt)
    refine ⟨by omega, fun l hl => ?_, .inr ?_⟩
    · have hd : 2 ^ (l + 1) ∣ x.toNat := Nat.dvd_trans (Nat.pow_dvd_pow 2 (by omega)) (Nat.dvd_of_mod_eq_zero e2)
      have hd2 : x.toNat % 2 ^ (l + 1) = 0 := Nat.mod_eq_zero_of_dvd hd
      have e : (2 : Int) * 2 ^ l = ((2 ^ (l + 1) : Nat) : Int) := by rw [Nat.pow_succ, Nat.mul_comm, Int.natCast_mul, hpow]; rfl
      rw [e, ← hxn]
      omega
    · have e : (2 : Int) * 2 ^ t = ((2 * 2 ^ t : Nat) : Int) := by rw [Int.natCast_mul, hpow]; rfl
      rw [e, ← hxn]
      omega
noncomputable abbrev lC : Tst := (tAd (tVal (eBin pLt (eVar 2) (eVar 0))) (tVal (eBin pEq (eBin pMod (eVar 1) (eBin pShl (eLit (.int 2)) (eVar 2))) (eLit (.int 0)))))
noncomputable abbrev lB : Sm := (sSet 2 (eBin pPlus (eVar 2) (eLit (.int 1))))
theorem lC_at {S : Sto} {w l : Nat} {x : Int} {y : Option SV} (hw2 : w ≤ 16) (hl : l ≤ w) : lC [some (.d (.int w)), some (.d (.int x)), some (.d (.int l)), y] S = some (.ok (decide (l < w) && decide (x % (2 * 2 ^ l) = 0)) S) := by
  have h2 : short 2 := by unfold short; omega
  have hll : (l : Int) ≤ 1000000 := by omega
  have hp : (0 : Int) < 2 * 2 ^ l := by have : (0 : Int) < 2 ^ l := Int.pow_pos (by omega); omega
  by_cases h : l < w
  · have h' : (l : Int) < w := by omega
    simp [lC, h, h', h2, hll, hp, okD_int, PyData.eqv]
    exact Bool.eq_iff_iff.mpr (by simp)
  · have h' : ¬ (l : Int) < w := by omega
    simp [lC, h, h']
theorem lev_go {S : Sto} {w t : Nat} {x : Int} {y : Option SV} (hw2 : w ≤ 16) (ht : t ≤ w) (hA : ∀ l, l < t → x % (2 * 2 ^ l) = 0) (hB : t = w ∨ x % (2 * 2 ^ t) ≠ 0) : ∀ (d l fuel : Nat), l + d = t → d < fuel →
    whGo lC lB fuel [some (.d (.int w)), some (.d (.int x)), some (.d (.int l)), y] S = some (.nx [some (.d (.int w)), some (.d (.int x)), some (.d (.int t)), y] S)
  | 0, l, fuel + 1, hl, _ => by
    have e : l = t := by omega
    subst e
    have hc := lC_at (S := S) (x := x) (y := y) hw2 ht
    have hf : (decide (l < w) && decide (x % (2 * 2 ^ l) = 0)) = false := by
      rcases hB with h | h
      · simp [h]
      · simp [h]
    rw [hf] at hc
    generalize lC = c at hc
    generalize lB = b
    simp [whGo, hc]
  | d + 1, l, fuel + 1, hl, hfu => by
    have hc := lC_at (S := S) (x := x) (l := l) (y := y) hw2 (by omega)
    have hf : (decide (l < w) && decide (x % (2 * 2 ^ l) = 0)) = true := by
      have := hA l (by omega)
      simp [this]
      omega
    rw [hf] at hc
    have hb : lB [some (.d (.int w)), some (.d (.int x)), some (.d (.int l)), y] S = some (.nx [some (.d (.int w)), some (.d (.int x)), some (.d (.int (l + 1 : Nat))), y] S) := by
      simp [lB]
    have ih := lev_go (S := S) (y := y) hw2 ht hA hB d (l + 1) fuel (by omega) (by omega)
    generalize lC = c at hc ih
    generalize lB = b at hb ih
    simp [whGo, hc, hb]
    exact ih
end T
set_option maxRecDepth 100000
set_option maxHeartbeats 4000000
namespace T
open PySem PySem.Spec PyProof.Rows L2 Z
/-! ## the inverse of an odd word -/
noncomputable abbrev iC : Tst := (tVal (eBin pNe (eBin pAnd (eBin pTimes (eVar 1) (eVar 3)) (eVar 2)) (eLit (.int 1))))
noncomputable abbrev iB : Sm := (sSet 3 (eBin pAnd (eBin pTimes (eVar 3) (eBin pSub (eLit (.int 2)) (eBin pTimes (eVar 1) (eVar 3)))) (eVar 2)))
theorem iC_at {S : Sto} {w : Nat} {x f : Int} (hx : short x) : iC [some (.d (.int w)), some (.d (.int x)), some (.d (.int (2 ^ w - 1))), some (.d (.int f))] S = some (.ok (!decide (x * f % 2 ^ w = 1)) S) := by
  have hm := PySem.W.kbt_mask (x * f) w
  simp [iC, hx, hm, okD_int, PyData.eqv]
  exact Bool.eq_iff_iff.mpr (by simp)
theorem iB_at {S : Sto} {w : Nat} {x f : Int} (hx : short x) (hf : short f) : iB [some (.d (.int w)), some (.d (.int x)), some (.d (.int (2 ^ w - 1))), some (.d (.int f))] S = some (.nx [some (.d (.int w)), some (.d (.int x)), some (.d (.int (2 ^ w - 1))), some (.d (.int (f * (2 - x * f) % 2 ^ w)))] S) := by
  have hm := PySem.W.kbt_mask (f * (2 - x * f)) w
  simp [iB, hx, hf, hm]
theorem pdp {a b : Nat} (h : a ≤ b) : (2 : Int) ^ a ∣ 2 ^ b := ⟨2 ^ (b - a), by rw [← Int.pow_add, Nat.add_sub_cancel' h]⟩
theorem sh_of {x : Int} (h0 : 0 ≤ x) (h1 : x < 65536) : short x := by unfold short; omega
theorem dvd_step {a w : Nat} {x f : Int} (h : (2 : Int) ^ a ∣ 1 - x * f) : (2 : Int) ^ (min (2 * a) w) ∣ 1 - x * (f * (2 - x * f) % 2 ^ w) := by
  have e1 : (1 : Int) - x * (f * (2 - x * f)) = (1 - x * f) * (1 - x * f) := by
    simp only [Int.mul_sub, Int.sub_mul, Int.one_mul, Int.mul_one]
    have a1 : x * (f * 2) = 2 * (x * f) := by rw [← Int.mul_assoc, Int.mul_comm]
    have a2 : x * (f * (x * f)) = x * f * (x * f) := by rw [← Int.mul_assoc]
    rw [a1, a2]
    omega
  have h2 : (2 : Int) ^ (2 * a) ∣ 1 - x * (f * (2 - x * f)) := by
    rw [e1, Nat.two_mul, Int.pow_add]
    exact Int.mul_dvd_mul h h
  have h3 : (2 : Int) ^ (min (2 * a) w) ∣ 1 - x * (f * (2 - x * f)) := Int.dvd_trans (pdp (Nat.min_le_left _ _)) h2
  have h4 : (2 : Int) ^ (min (2 * a) w) ∣ 2 ^ w := pdp (Nat.min_le_right _ _)
  have e5 : f * (2 - x * f) % 2 ^ w = f * (2 - x * f) - 2 ^ w * (f * (2 - x * f) / 2 ^ w) := by
    have := Int.emod_add_mul_ediv (f * (2 - x * f)) (2 ^ w)
    omega
  have e6 : 1 - x * (f * (2 - x * f) % 2 ^ w) = (1 - x * (f * (2 - x * f))) + 2 ^ w * (x * (f * (2 - x * f) / 2 ^ w)) := by
    rw [e5, Int.mul_sub]
    have : x * (2 ^ w * (f * (2 - x * f) / 2 ^ w)) = 2 ^ w * (x * (f * (2 - x * f) / 2 ^ w)) := by rw [← Int.mul_assoc, Int.mul_comm x, Int.mul_assoc]
    rw [this]
    omega
  rw [e6]
  exact Int.dvd_add h3 (Int.dvd_trans h4 (Int.dvd_mul_right _ _))
theorem one_of {w : Nat} {x f : Int} (hw : 1 ≤ w) (h : (2 : Int) ^ w ∣ 1 - x * f) : x * f % 2 ^ w = 1 := by
  have h1 : (1 : Int) < 2 ^ w := by
    have a : (2 : Nat) ^ 1 ≤ 2 ^ w := Nat.pow_le_pow_right (by omega) hw
    have b : ((2 ^ w : Nat) : Int) = 2 ^ w := by rw [Int.natCast_pow]; rfl
    omega
  have h2 := Int.emod_eq_emod_iff_emod_sub_eq_zero.mpr (Int.emod_eq_zero_of_dvd h)
  rw [← h2]
  exact Int.emod_eq_of_lt (by omega) h1
theorem inv_go {S : Sto} {w : Nat} {x : Int} (hw : 1 ≤ w) (hw2 : w ≤ 16) (hx : 0 ≤ x ∧ x < 65536) : ∀ (n a fuel : Nat) (f : Int), w ≤ a * 2 ^ n → n < fuel → 0 ≤ f → f < 2 ^ w → (2 : Int) ^ a ∣ 1 - x * f →
    ∃ r : Int, 0 ≤ r ∧ r < 2 ^ w ∧ x * r % 2 ^ w = 1 ∧ whGo iC iB fuel [some (.d (.int w)), some (.d (.int x)), some (.d (.int (2 ^ w - 1))), some (.d (.int f))] S = some (.nx [some (.d (.int w)), some (.d (.int x)), some (.d (.int (2 ^ w - 1))), some (.d (.int r))] S)
  | n, a, fuel + 1, f, h1, h2, f0, f1, hd => by
    have hp := pow_w hw2
    have sx := sh_of hx.1 hx.2
    have sf := sh_of f0 (by omega)
    have hc := iC_at (S := S) (w := w) (f := f) sx
    by_cases he : x * f % 2 ^ w = 1
    · refine ⟨f, f0, f1, he, ?_⟩
      simp only [he, decide_true, Bool.not_true] at hc
      generalize iC = c at hc
      generalize iB = b
      simp [whGo, hc]
    · cases n with
      | zero => exact absurd (one_of hw (Int.dvd_trans (pdp (by simpa using h1)) hd)) he
      | succ n =>
        have hb := iB_at (S := S) (w := w) sx sf
        have q0 := Int.emod_nonneg (f * (2 - x * f)) (show (2 : Int) ^ w ≠ 0 by omega)
        have q1 := Int.emod_lt_of_pos (f * (2 - x * f)) hp.1
        have hle : w ≤ min (2 * a) w * 2 ^ n := by
          rcases Nat.le_total (2 * a) w with h | h
          · rw [Nat.min_eq_left h, Nat.mul_comm 2 a, Nat.mul_assoc, Nat.mul_comm 2, ← Nat.pow_succ]
            exact h1
          · rw [Nat.min_eq_right h]
            exact Nat.le_mul_of_pos_right _ (Nat.pow_pos (by omega))
        obtain ⟨r, r0, r1, r2, r3⟩ := inv_go (S := S) hw hw2 hx n (min (2 * a) w) fuel _ hle (by omega) q0 q1 (dvd_step hd)
        refine ⟨r, r0, r1, r2, ?_⟩
        simp only [he, decide_false, Bool.not_false] at hc
        generalize iC = c at hc r3
        generalize iB = b at hb r3
        simp [whGo, hc, hb]
        exact r3
theorem p_inverse {S : Sto} {w : Nat} {x : Int} (hw : 1 ≤ w) (hw2 : w ≤ 16) (h0 : 0 ≤ x) (h1 : x < 2 ^ w) (ho : x % 2 = 1) : ∃ r : Int, 0 ≤ r ∧ r < 2 ^ w ∧ x * r % 2 ^ w = 1 ∧ f_inverse [.d (.int w), .d (.int x)] S = some (.ok (.d (.int r)) S) := by
  have hp := pow_w hw2
  have hw1 : (1 : Int) < 2 ^ w := by
    have a : (2 : Nat) ^ 1 ≤ 2 ^ w := Nat.pow_le_pow_right (by omega) hw
    have b : ((2 ^ w : Nat) : Int) = 2 ^ w := by rw [Int.natCast_pow]; rfl
    omega
  obtain ⟨r, r0, r1, r2, r3⟩ := inv_go (S := S) hw hw2 ⟨h0, by omega⟩ 4 1 1000 1 (by omega) (by omega) (by omega) hw1 ⟨(1 - x) / 2, by omega⟩
  refine ⟨r, r0, r1, r2, ?_⟩
  have hs : short 1 := by unfold short; omega
  have hwl : (w : Int) ≤ 1000000 := by omega
  have hm : m_inverse [some (.d (.int w)), some (.d (.int x)), none, none] S = some (.rt (.d (.int r)) S) := by
    unfold m_inverse
    rw [seq_nx (σ' := [some (.d (.int w)), some (.d (.int x)), some (.d (.int (2 ^ w - 1))), none]) (S' := S) (by simp [hs, hwl])]
    rw [seq_nx (σ' := [some (.d (.int w)), some (.d (.int x)), some (.d (.int (2 ^ w - 1))), some (.d (.int 1))]) (S' := S) (by simp)]
    rw [seq_nx r3]
    simp
  simp [f_inverse, hm]
end T
set_option maxRecDepth 100000
set_option maxHeartbeats 4000000
namespace T
open PySem PySem.Spec PyProof.Rows L2 Z
theorem okR_int {i : Int} (h : i.natAbs < 2 ^ 100) : okR (.int i) := (Sz.int (b := 100) (dep := 0) (log_lt h (by omega))).okR
theorem shown_int_len {i : Int} (h : i.natAbs < 65536) : 7 + (PyData.int i).shown.length ≤ sizeLine := by
  have hl : i.natAbs.log2 < 16 := log_lt (n := 16) (by omega) (by omega)
  have h2 : (Str.ofString (toString i)).length ≤ 30 := Nat.le_trans (int_str_len i) (by omega)
  have e : (PyData.int i).shown = Str.ofString (toString i) := by simp [PyData.shown]
  rw [e, sizeLine_eq]
  omega
theorem lev_even {w : Nat} {x : Int} (hw : 1 ≤ w) (hw2 : w ≤ 16) (h0 : 0 ≤ x) (h1 : x < 2 ^ w) (he : x % 2 = 0) : 0 < lev w x := by
  obtain ⟨a, b, c⟩ := lev_facts hw hw2 h0 h1
  by_cases h : lev w x = 0
  · rw [h] at c
    rcases c with c | c
    · omega
    · simp at c
      omega
  · omega
theorem lev_odd {w : Nat} {x : Int} (hw : 1 ≤ w) (hw2 : w ≤ 16) (h0 : 0 ≤ x) (h1 : x < 2 ^ w) (he : x % 2 = 1) : lev w x = 0 := by
  obtain ⟨a, b, c⟩ := lev_facts hw hw2 h0 h1
  by_cases h : lev w x = 0
  · exact h
  · have := b 0 (by omega)
    simp at this
    omega
theorem p_word_inverse_even {S : Sto} {w : Nat} {x : Int} (hw : 1 ≤ w) (hw2 : w ≤ 16) (h0 : 0 ≤ x) (h1 : x < 2 ^ w) (he : x % 2 = 0) : f_word_inverse [.d (.int w), .d (.int x)] S = some (.exc (xN (.int x)) S) := by
  have hl := lev_even hw hw2 h0 h1 he
  simp [f_word_inverse, m_word_inverse, p_ok_width hw hw2, p_ok_word hw2 (isW h0 h1), p_level hw2 h0 h1, hl]
theorem p_word_inverse_odd {S : Sto} {w : Nat} {x : Int} (hw : 1 ≤ w) (hw2 : w ≤ 16) (h0 : 0 ≤ x) (h1 : x < 2 ^ w) (he : x % 2 = 1) : ∃ r : Int, 0 ≤ r ∧ r < 2 ^ w ∧ x * r % 2 ^ w = 1 ∧ f_word_inverse [.d (.int w), .d (.int x)] S = some (.ok (.d (.int r)) S) := by
  have hl := lev_odd hw hw2 h0 h1 he
  obtain ⟨r, r0, r1, r2, r3⟩ := p_inverse (S := S) hw hw2 h0 h1 he
  exact ⟨r, r0, r1, r2, by simp [f_word_inverse, m_word_inverse, p_ok_width hw hw2, p_ok_word hw2 (isW h0 h1), p_level hw2 h0 h1, hl, r3]⟩
theorem word_right {S : Sto} {tp : Nat → Addr} {w : Nat} {x : Int} (t : Tb tp S) (hw : 1 ≤ w) (hw2 : w ≤ 16) (h0 : 0 ≤ x) (h1 : x < 2 ^ w) : f__law_word_right tp [.d (.int w), .d (.int x)] S = some (.ok (.d (.bool true)) S) := by
  have hp := pow_w hw2
  obtain ⟨a, b, c⟩ := lev_facts hw hw2 h0 h1
  have hg := lev_go (S := S) (y := none) hw2 a b c (lev w x) 0 1000 (by omega) (by omega)
  have hlv := p_word_level (S := S) hw hw2 h0 h1
  have hR := okR_int (i := ((lev w x : Nat) : Int)) (by omega)
  have hRx := okR_int (i := x) (by omega)
  have s2 : short 2 := by unfold short; omega
  have k7 : (Str.ofString "number ").length = 7 := rfl
  have zx := shown_int_len (i := x) (by omega)
  have hm : m__law_word_right tp [some (.d (.int w)), some (.d (.int x)), none, none] S = some (.rt (.d (.bool true)) S) := by
    unfold m__law_word_right
    rw [seq_nx (σ' := [some (.d (.int w)), some (.d (.int x)), some (.d (.int ((0 : Nat) : Int))), none]) (S' := S) (by simp)]
    rw [seq_nx hg]
    rw [seq_nx (σ' := [some (.d (.int w)), some (.d (.int x)), some (.d (.int (lev w x : Nat))), none]) (S' := S) (by simp [hlv, hR])]
    by_cases he : x % 2 = 0
    · have hh := hand_number (σ := [some (.d (.int w)), some (.d (.int x)), some (.d (.int (lev w x : Nat))), none]) t.t2 (ee := (eCall f_word_inverse (esCons (eVar 0) (esCons (eVar 1) esNil)))) (v := .int x) (by simp [p_word_inverse_even hw hw2 h0 h1 he]) hRx zx
      generalize (eHand 2 (lamQ (Str.ofString "_law_word_right")) (tp 2) g__law_refusal (eCall f_word_inverse (esCons (eVar 0) (esCons (eVar 1) esNil)))) = J at hh ⊢
      simp [he, okD_int, PyData.eqv, hh, hRx, k7, zx]
    · have ho : x % 2 = 1 := by omega
      obtain ⟨r, r0, r1, r2, r3⟩ := p_word_inverse_odd (S := S) hw hw2 h0 h1 ho
      rw [seq_nx (σ' := [some (.d (.int w)), some (.d (.int x)), some (.d (.int (lev w x : Nat))), none]) (S' := S) (by simp [ho, okD_int, PyData.eqv])]
      rw [seq_nx (σ' := [some (.d (.int w)), some (.d (.int x)), some (.d (.int (lev w x : Nat))), some (.d (.int r))]) (S' := S) (by simp [r3])]
      have hs : short 1 := by unfold short; omega
      have hwl : (w : Int) ≤ 1000000 := by omega
      have sr := sh_of r0 (by omega)
      have hl := l_is_word (S := S) hw2 (.int r)
      rw [isW r0 r1] at hl
      have r2' : r * x % 2 ^ w = 1 := by rw [Int.mul_comm]; exact r2
      simp [hl, hs, hwl, sr, hp.1, r2', okD_int, PyData.eqv]
  simp [f__law_word_right, hm]
end T
set_option maxRecDepth 100000
set_option maxHeartbeats 4000000
namespace T
open PySem PySem.Spec PyProof.Rows L2 Z
def gdO (v : PyData) : Bool := smD 130 2 140 v && asc v.shown && decide (v.shown.length ≤ 100)
theorem oths_ok : ∀ v ∈ oths, gdO v = true := fun v h => List.all_eq_true.mp (show oths.all gdO = true by decide +kernel) v h
theorem gdO_of {v : PyData} (h : gdO v = true) : okR v ∧ asc v.shown = true ∧ 7 + v.shown.length ≤ sizeLine := by
  simp only [gdO, Bool.and_eq_true, decide_eq_true_eq] at h
  obtain ⟨⟨h2, h3⟩, h4⟩ := h
  exact ⟨(Sz.of h2).okR, h3, by rw [sizeLine_eq]; omega⟩
theorem bad_word {S : Sto} {i w : Nat} {tp : Nat → Addr} (h : StrAt S i) (t : Tb tp S) (hw2 : w ≤ 16) : ∃ (y : PyData) (S' : Sto), Dr S i S' ∧ y ∈ oths ∧ isWord w y = false ∧ f__law_bad_word tp [.r i, .d (.int w)] S = some (.ok (.d y) S') := by
  have hp : ∀ v T, pOf (inEnv [some (.r i), some (.d (.int w))] (eCall f__law_is_word (esCons (eVar 1) (esCons (eVar 2) esNil)))) (.d v) T = some (.bool (isWord w v), T) := fun v T => by
    have e := l_is_word (S := T) hw2 v
    simp [pOf, inEnv, flatS, flat1, flatD, e]
  obtain ⟨y, S', d1, h1, h2, h3⟩ := bad_ h hp rfl
  have hl := d1.len
  have e : eHandC 3 (lamQ (Str.ofString "_law_bad_word")) (tp 3) g__law_bad (eCall f__law_is_word (esCons (eVar 1) (esCons (eVar 2) esNil))) (eVar 0) [some (.r i), some (.d (.int w))] S = some (.ok (.d y) S') := by
    unfold eHandC
    simp only [eVar, List.getElem?_cons_zero, Res.bnd, t.t3, and_self, if_true, h3]
  refine ⟨y, S', d1, h1, h2, ?_⟩
  simp only [f__law_bad_word, m__law_bad_word, fnRun, List.map_cons, List.map_nil, List.cons_append, List.nil_append, List.replicate, sRet, e]
  simp [← hl]
theorem zsz {v : PyData} (hv : Sz 130 6 2200 v) : ∀ ds, v = .tuple ds → ds.length ≤ sizeLine := fun ds e => by
  subst e
  have := hv.tupI.1.len
  rw [sizeLine_eq]
  omega
noncomputable abbrev bvB : Sm := (sIf (tVal (eCall f__law_is_vector (esCons (eVar 1) (esCons (eVar 2) (esCons (eVar 4) esNil))))) (sSet 4 (eCall (f__law_bent 8) (esCons (eVar 0) (esCons (eVar 3) esNil)))) sNil)
theorem bv_go {i w n : Nat} {ns : List Int} (hw2 : w ≤ 16) (hns : wordsW w ns) (h0 : 0 < ns.length) (h4 : ns.length ≤ 40) : ∀ (ds : List PyData) (v : PyData) (S : Sto) (x : Option SV), Sz 130 5 2100 v → StrAt S i →
    ∃ (v' : PyData) (S' : Sto) (x' : Option SV), Sz 130 5 2100 v' ∧ Dr S i S' ∧ forGo none (gVar 5) bvB ds [some (.r i), some (.d (.int w)), some (.d (.int n)), some (.d (tupI ns)), some (.d v), x] S = some (.nx [some (.r i), some (.d (.int w)), some (.d (.int n)), some (.d (tupI ns)), some (.d v'), x'] S')
  | [], v, S, x, hv, h => ⟨v, S, x, hv, Dr.self h, by simp [forGo, gdOk]⟩
  | d :: ds, v, S, x, hv, h => by
    have e := l_is_vector (S := S) (n := n) hw2 v (zsz (hv.mono (Nat.le_refl _) (by omega) (by omega)))
    cases hg : isVec w n v with
    | true =>
      obtain ⟨o, S1, d1, ho, e1⟩ := bent_vec h hw2 hns h0 h4
      obtain ⟨v', S2, x', h1, h2, h3⟩ := bv_go (n := n) hw2 hns h0 h4 ds o S1 (some (.d d)) ho (d1.at h.lt)
      rw [hg] at e
      refine ⟨v', S2, x', h1, d1.trans h2, ?_⟩
      have hb : bvB [some (.r i), some (.d (.int w)), some (.d (.int n)), some (.d (tupI ns)), some (.d v), some (.d d)] S = some (.nx [some (.r i), some (.d (.int w)), some (.d (.int n)), some (.d (tupI ns)), some (.d o), some (.d d)] S1) := by simp [bvB, e, e1]
      generalize bvB = B at hb h3
      simp [forGo, gdOk, hb, h3]
    | false =>
      obtain ⟨v', S2, x', h1, h2, h3⟩ := bv_go (n := n) hw2 hns h0 h4 ds v S (some (.d d)) hv h
      rw [hg] at e
      refine ⟨v', S2, x', h1, h2, ?_⟩
      have hb : bvB [some (.r i), some (.d (.int w)), some (.d (.int n)), some (.d (tupI ns)), some (.d v), some (.d d)] S = some (.nx [some (.r i), some (.d (.int w)), some (.d (.int n)), some (.d (tupI ns)), some (.d v), some (.d d)] S) := by simp [bvB, e]
      generalize bvB = B at hb h3
      simp [forGo, gdOk, hb, h3]
theorem bad_vector {S : Sto} {i w n : Nat} (h : StrAt S i) (hw : 1 ≤ w) (hw2 : w ≤ 16) (hn : 1 ≤ n ∧ n ≤ 40) : ∃ (y : PyData) (S' : Sto), Dr S i S' ∧ Sz 130 6 2200 y ∧ isVec w n y = false ∧ f__law_bad_vector [.r i, .d (.int w), .d (.int n)] S = some (.ok (.d y) S') := by
  obtain ⟨ns, S1, d1, l1, hns, e1⟩ := row h hw hw2 (n := n) hn.2
  have s1 := d1.at h.lt
  obtain ⟨v, S2, d2, hv, e2⟩ := bent_vec s1 hw2 hns (by omega) (by omega)
  have s2 := d2.at s1.lt
  obtain ⟨v', S3, x', hv', d3, e3⟩ := bv_go (n := n) hw2 hns (by omega) (by omega) (upTo 0 20) v S2 none hv s2
  have hl := ((d1.trans d2).trans d3).len
  have h62 : small62 20 := by unfold small62; omega
  have e := l_is_vector (S := S3) (n := n) hw2 v' (zsz (hv'.mono (Nat.le_refl _) (by omega) (by omega)))
  have zB : (ns.map PyData.int).length ≤ sizeLine := by rw [sizeLine_eq]; simp; omega
  have hz := (row_szs hw2 hns).mono (b' := 130) (dep' := 3) (sz' := 800) (by omega) (by omega) (by omega)
  have hm : m__law_bad_vector [some (.r i), some (.d (.int w)), some (.d (.int n)), none, none, none] S = some (.rt (.d (if isVec w n v' = true then .list (ns.map .int) else v')) S3) := by
    unfold m__law_bad_vector
    rw [seq_nx (σ' := [some (.r i), some (.d (.int w)), some (.d (.int n)), some (.d (tupI ns)), none, none]) (S' := S1) (by simp [e1])]
    rw [seq_nx (σ' := [some (.r i), some (.d (.int w)), some (.d (.int n)), some (.d (tupI ns)), some (.d v), none]) (S' := S2) (by simp [e2])]
    rw [seq_nx (σ' := [some (.r i), some (.d (.int w)), some (.d (.int n)), some (.d (tupI ns)), some (.d v'), x']) (S' := S3) (by
      show Sm.bnd ((wRng1 (eLit (.int 20))) [some (.r i), some (.d (.int w)), some (.d (.int n)), some (.d (tupI ns)), some (.d v), none] S2) (fun wk S1 => forGo wk.own (gVar 5) bvB wk.ds [some (.r i), some (.d (.int w)), some (.d (.int n)), some (.d (tupI ns)), some (.d v), none] S1) = _
      rw [show (wRng1 (eLit (.int 20))) [some (.r i), some (.d (.int w)), some (.d (.int n)), some (.d (tupI ns)), some (.d v), none] S2 = some (.ok ⟨upTo 0 20, none⟩ S2) by simp [h62]]
      exact e3)]
    cases hg : isVec w n v' with
    | true =>
      rw [hg] at e
      simp only [tupI] at *
      generalize ns.map PyData.int = ds at *
      simp [e, zB]
    | false =>
      rw [hg] at e
      simp [e]
  refine ⟨if isVec w n v' = true then .list (ns.map .int) else v', S3, (d1.trans d2).trans d3, ?_, ?_, by simp [f__law_bad_vector, hm, ← hl]⟩
  · split
    · exact hz.lst.mono (Nat.le_refl _) (by omega) (by omega)
    · exact hv'.mono (Nat.le_refl _) (by omega) (by omega)
  · split
    · rfl
    · rename_i hh
      simpa using hh
/-! ## a vector of any size -/
def isAny (w : Nat) : PyData → Bool
  | .tuple ds => decide (1 ≤ ds.length ∧ ds.length ≤ 40) && isVec w ds.length (.tuple ds)
  | _ => false
theorem l_is_any {S : Sto} {w : Nat} {v : PyData} (hw2 : w ≤ 16) (hz : ∀ ds, v = .tuple ds → ds.length ≤ sizeLine) : f__law_is_any [.d (.int w), .d v] S = some (.ok (.d (.bool (isAny w v))) S) := by
  cases v with
  | tuple ds =>
    have e := l_is_vector (S := S) (n := ds.length) hw2 (.tuple ds) hz
    have h1 : ((1 : Int) ≤ (ds.length : Int)) ↔ 1 ≤ ds.length := by omega
    have h2 : ((ds.length : Int) ≤ 40) ↔ ds.length ≤ 40 := by omega
    by_cases a : 1 ≤ ds.length
    · by_cases b : ds.length ≤ 40
      · simp [f__law_is_any, m__law_is_any, isAny, h1.mpr a, h2.mpr b, e, a, b]
      · have b' : ¬ ((ds.length : Int) ≤ 40) := by omega
        simp [f__law_is_any, m__law_is_any, isAny, h1.mpr a, b', a, b]
    · have a' : ¬ ((1 : Int) ≤ (ds.length : Int)) := by omega
      simp [f__law_is_any, m__law_is_any, isAny, a', a]
  | _ => simp [f__law_is_any, m__law_is_any, isAny]
theorem p_fits_size {S : Sto} (v : PyData) : f_fits_size [.d v] S = some (.ok (.d (.bool (inSize v))) S) := by
  cases v <;> simp [f_fits_size, m_fits_size, p_fits_bounds, inSize]
theorem any_bad {S : Sto} {w : Nat} {v : PyData} (hw2 : w ≤ 16) (hz : ∀ ds, v = .tuple ds → ds.length ≤ sizeLine) (h : isAny w v = false) : f_need_any_vector [.d (.int w), .d v] S = some (.exc xV S) := by
  cases v with
  | tuple ds =>
    have e := p_fits_size (S := S) (.int ds.length)
    by_cases a : 1 ≤ ds.length ∧ ds.length ≤ 40
    · have q : isVec w ds.length (.tuple ds) = false := by simpa [isAny, a] using h
      have e2 := p_bad_vector (S := S) hw2 (by omega) hz q
      have e1 : inSize (.int ds.length) = true := by simp [inSize]; omega
      rw [e1] at e
      simp [f_need_any_vector, m_need_any_vector, e, e2]
    · have e1 : inSize (.int ds.length) = false := by simp [inSize]; omega
      rw [e1] at e
      simp [f_need_any_vector, m_need_any_vector, e]
  | _ => simp [f_need_any_vector, m_need_any_vector]
theorem vec_ok {w n : Nat} {ns : List Int} (h : wordsW w ns) (hl : ns.length = n) : isVec w n (tupI ns) = true := by
  simp only [tupI, isVec, List.length_map, hl, decide_true, Bool.true_and, List.all_map, List.all_eq_true]
  intro x hx
  have := h x hx
  simp [isWord, this]
theorem any_ok {S : Sto} {w n : Nat} {ns : List Int} (hw2 : w ≤ 16) (hn : 1 ≤ n ∧ n ≤ 40) (h : wordsW w ns) (hl : ns.length = n) : f_need_any_vector [.d (.int w), .d (tupI ns)] S = some (.ok (.d .none) S) := by
  have e := p_fits_size (S := S) (.int (n : Int))
  have e1 : inSize (.int (n : Int)) = true := by simp [inSize]; omega
  rw [e1] at e
  have e2 := p_ok_vector (S := S) (v := tupI ns) hw2 (fun ds q => by simp only [tupI] at q; cases q; rw [sizeLine_eq]; simp; omega) (vec_ok h hl)
  have hlen : (ns.map PyData.int).length = n := by simp [hl]
  simp only [tupI] at e2 ⊢
  generalize ns.map PyData.int = ds at *
  simp [f_need_any_vector, m_need_any_vector, hlen, e, e2]
/-! ## the refusals -/
theorem r_sum_w {S : Sto} {o m v : PyData} (ho : inWidth o = false) : f_vector_sum [.d o, .d m, .d v] S = some (.exc xW S) := by
  simp [f_vector_sum, m_vector_sum, sz_le, p_bad_width ho]
theorem r_sum_n {S : Sto} {w : Nat} {m v : PyData} (hw : 1 ≤ w) (hw2 : w ≤ 16) (hm : inSize m = false) : f_vector_sum [.d (.int w), .d m, .d v] S = some (.exc (xN m) S) := by
  simp [f_vector_sum, m_vector_sum, sz_le, p_ok_width hw hw2, p_bad_size hm]
theorem r_sum_v {S : Sto} {w n : Nat} {v : PyData} (hw : 1 ≤ w) (hw2 : w ≤ 16) (hn : 1 ≤ n ∧ n ≤ 40) (hz : ∀ ds, v = .tuple ds → ds.length ≤ sizeLine) (h : isVec w n v = false) : f_vector_sum [.d (.int w), .d (.int n), .d v] S = some (.exc xV S) := by
  have e := p_bad_vector (S := S) hw2 (by omega) hz h
  have e2 : f_need_vectors [.d (.int w), .d (.int n), .d (.tuple [v])] S = some (.exc xV S) := by
    simp [f_need_vectors, m_need_vectors, forGo, gdOk, e]
  simp [f_vector_sum, m_vector_sum, sz_le, p_ok_width hw hw2, p_ok_size hn, e2]
theorem r_sum_gv {S : Sto} {w n : Nat} {g v : PyData} (hw : 1 ≤ w) (hw2 : w ≤ 16) (hn : 1 ≤ n ∧ n ≤ 40) (hz0 : ∀ ds, g = .tuple ds → ds.length ≤ sizeLine) (hg : isVec w n g = true) (hz : ∀ ds, v = .tuple ds → ds.length ≤ sizeLine) (h : isVec w n v = false) : f_vector_sum [.d (.int w), .d (.int n), .d g, .d v] S = some (.exc xV S) := by
  have e0 := p_ok_vector (S := S) hw2 hz0 hg
  have e := p_bad_vector (S := S) hw2 (by omega) hz h
  have e2 : f_need_vectors [.d (.int w), .d (.int n), .d (.tuple [g, v])] S = some (.exc xV S) := by
    simp [f_need_vectors, m_need_vectors, forGo, gdOk, e0, e]
  simp [f_vector_sum, m_vector_sum, sz_le, p_ok_width hw hw2, p_ok_size hn, e2]
theorem r_mul_w {S : Sto} {o m v : PyData} (ho : inWidth o = false) : f_vector_multiple [.d o, .d m, .d v] S = some (.exc xW S) := by
  simp [f_vector_multiple, m_vector_multiple, p_bad_width ho]
theorem r_mul_v {S : Sto} {w : Nat} {m v : PyData} (hw : 1 ≤ w) (hw2 : w ≤ 16) (hz : ∀ ds, m = .tuple ds → ds.length ≤ sizeLine) (h : isAny w m = false) : f_vector_multiple [.d (.int w), .d m, .d v] S = some (.exc xV S) := by
  simp [f_vector_multiple, m_vector_multiple, p_ok_width hw hw2, any_bad hw2 hz h]
theorem r_mul_f {S : Sto} {w n : Nat} {ns : List Int} {v : PyData} (hw : 1 ≤ w) (hw2 : w ≤ 16) (hn : 1 ≤ n ∧ n ≤ 40) (h : wordsW w ns) (hl : ns.length = n) (hv : isWord w v = false) : f_vector_multiple [.d (.int w), .d (tupI ns), .d v] S = some (.exc (xN v) S) := by
  simp [f_vector_multiple, m_vector_multiple, p_ok_width hw hw2, any_ok hw2 hn h hl, p_bad_word hw2 hv]
theorem r_dot_w {S : Sto} {o m v : PyData} (ho : inWidth o = false) : f_dot_product [.d o, .d m, .d v] S = some (.exc xW S) := by
  simp [f_dot_product, m_dot_product, p_bad_width ho]
theorem r_dot_v {S : Sto} {w : Nat} {m v : PyData} (hw : 1 ≤ w) (hw2 : w ≤ 16) (hz : ∀ ds, m = .tuple ds → ds.length ≤ sizeLine) (h : isAny w m = false) : f_dot_product [.d (.int w), .d m, .d v] S = some (.exc xV S) := by
  simp [f_dot_product, m_dot_product, p_ok_width hw hw2, any_bad hw2 hz h]
theorem r_dot_o {S : Sto} {w n : Nat} {ns : List Int} {v : PyData} (hw : 1 ≤ w) (hw2 : w ≤ 16) (hn : 1 ≤ n ∧ n ≤ 40) (h : wordsW w ns) (hl : ns.length = n) (hz : ∀ ds, v = .tuple ds → ds.length ≤ sizeLine) (hv : isVec w n v = false) : f_dot_product [.d (.int w), .d (tupI ns), .d v] S = some (.exc xV S) := by
  have e := any_ok (S := S) hw2 hn h hl
  have e2 := p_bad_vector (S := S) hw2 (by omega) hz hv
  have hlen : (ns.map PyData.int).length = n := by simp [hl]
  simp only [tupI] at e ⊢
  generalize ns.map PyData.int = ds at *
  simp [f_dot_product, m_dot_product, p_ok_width hw hw2, hlen, e, e2]
theorem r_lev_w {S : Sto} {o v : PyData} (ho : inWidth o = false) : f_word_level [.d o, .d v] S = some (.exc xW S) := by
  simp [f_word_level, m_word_level, p_bad_width ho]
theorem r_lev_v {S : Sto} {w : Nat} {v : PyData} (hw : 1 ≤ w) (hw2 : w ≤ 16) (hv : isWord w v = false) : f_word_level [.d (.int w), .d v] S = some (.exc (xN v) S) := by
  simp [f_word_level, m_word_level, p_ok_width hw hw2, p_bad_word hw2 hv]
theorem r_inv_w {S : Sto} {o v : PyData} (ho : inWidth o = false) : f_word_inverse [.d o, .d v] S = some (.exc xW S) := by
  simp [f_word_inverse, m_word_inverse, p_bad_width ho]
theorem r_inv_v {S : Sto} {w : Nat} {v : PyData} (hw : 1 ≤ w) (hw2 : w ≤ 16) (hv : isWord w v = false) : f_word_inverse [.d (.int w), .d v] S = some (.exc (xN v) S) := by
  simp [f_word_inverse, m_word_inverse, p_ok_width hw hw2, p_bad_word hw2 hv]
end T
set_option maxRecDepth 100000
set_option maxHeartbeats 4000000
namespace T
open PySem PySem.Spec PyProof.Rows L2 Z
theorem app_step {σ : Sg} {S : Sto} {J : Ex} {L : List Str} {u : Str} (h9 : σ[9]? = some (some (.r S.length))) (hJ : J σ (S ++ [.lst (L.map .str)]) = some (.ok (.d (.str u)) (S ++ [.lst (L.map .str)]))) (hl : L.length ≤ 100 := by simp) :
    (sDo (eApp (eVar 9) J)) σ (S ++ [.lst (L.map .str)]) = some (.nx σ (S ++ [.lst ((L ++ [u]).map .str)])) := by
  have k1 : ∀ o, (S ++ [o])[S.length]? = some o := fun o => by simp
  have k2 : ∀ o o', (S ++ [o]).set S.length o' = S ++ [o'] := fun o o' => by simp
  have hz : L.length < sizeLine := sz_lt (by omega)
  simp only [sDo, eApp, eVar, h9, hJ, bnd_ok]
  simp [k1, k2, hz]
theorem errors_right {S : Sto} {i w n : Nat} {tp : Nat → Addr} (h : StrAt S i) (hi : 6 ≤ i) (t : Tb tp S) (hw : 1 ≤ w) (hw2 : w ≤ 16) (hn : 1 ≤ n ∧ n ≤ 40) :
    ∃ S', Dr S i S' ∧ f__law_errors_right tp [.r i, .d (.int w), .d (.int n)] S = some (.ok (.d (.bool true)) S') := by
  obtain ⟨wide, S1, d1, m1, g1, e1⟩ := bad_width h t
  have s1 := d1.at h.lt
  obtain ⟨many, S2, d2, m2, g2, e2⟩ := bad_size s1 (t.dr d1 hi)
  have s2 := d2.at s1.lt
  obtain ⟨word, S3, d3, m3, g3, e3⟩ := bad_word s2 (t.dr (d1.trans d2) hi) hw2
  have s3 := d3.at s2.lt
  obtain ⟨ns, S4, d4, ln, wn, e4⟩ := row s3 hw hw2 (n := n) hn.2
  have s4 := d4.at s3.lt
  obtain ⟨odd, S5, d5, vo, go, e5⟩ := bad_vector s4 hw hw2 hn
  have D := (((d1.trans d2).trans d3).trans d4).trans d5
  have hl := D.len
  have T5 := t.dr D hi
  obtain ⟨rm, am, zm⟩ := gdO_of (oths_ok many m2)
  obtain ⟨rw_, aw, zw⟩ := gdO_of (oths_ok word m3)
  have zo := zsz vo
  have hz := (row_szs hw2 wn).mono (b' := 130) (dep' := 3) (sz' := 800) (by omega) (by omega) (by omega)
  have zg : ∀ ds, tupI ns = .tuple ds → ds.length ≤ sizeLine := zsz (hz.tup.mono (Nat.le_refl _) (by omega) (by omega))
  have zB : (ns.map PyData.int).length ≤ sizeLine := by rw [sizeLine_eq]; simp; omega
  have ea := l_is_any (S := S5) hw2 zo
  obtain ⟨free, zf, gf, ef⟩ : ∃ free : PyData, (∀ ds, free = .tuple ds → ds.length ≤ sizeLine) ∧ isAny w free = false ∧ (eIf (tNt (tVal (eCall f__law_is_any (esCons (eVar 1) (esCons (eVar 7) esNil))))) (eVar 7) (eCa pListOf (esCons (eVar 6) esNil))) [some (.r i), some (.d (.int w)), some (.d (.int n)), some (.d wide), some (.d many), some (.d word), some (.d (tupI ns)), some (.d odd), none, none, none, none] S5 = some (.ok (.d free) S5) := by
    cases hg : isAny w odd with
    | true =>
      rw [hg] at ea
      refine ⟨.list (ns.map .int), (fun ds q => nomatch q), rfl, ?_⟩
      simp only [tupI]
      generalize ns.map PyData.int = ds at *
      simp [ea, zB]
    | false =>
      rw [hg] at ea
      exact ⟨odd, zo, hg, by simp [ea]⟩
  refine ⟨S5, D, ?_⟩
  have k7 : (Str.ofString "number ").length = 7 := rfl
  have k1 : ∀ o, (S5 ++ [o])[S5.length]? = some o := fun o => by simp
  have k3 : ∀ o, (S5 ++ [o]).take S5.length = S5 := fun o => by simp
  have hm : m__law_errors_right tp [some (.r i), some (.d (.int w)), some (.d (.int n)), none, none, none, none, none, none, none, none, none] S = some (.rt (.d (.bool true)) (S5 ++ [.lst (([(Str.ofString "width"), (Str.ofString "number " ++ many.shown), (Str.ofString "vector"), (Str.ofString "vector"), (Str.ofString "width"), (Str.ofString "vector"), (Str.ofString "number " ++ word.shown), (Str.ofString "width"), (Str.ofString "vector"), (Str.ofString "vector"), (Str.ofString "width"), (Str.ofString "number " ++ word.shown), (Str.ofString "width"), (Str.ofString "number " ++ word.shown)] : List Str).map .str)])) := by
    unfold m__law_errors_right
    rw [seq_nx (σ' := [some (.r i), some (.d (.int w)), some (.d (.int n)), some (.d wide), some (.d many), none, none, none, none, none, none, none]) (S' := S2) (by simp [e1, e2])]
    rw [seq_nx (σ' := [some (.r i), some (.d (.int w)), some (.d (.int n)), some (.d wide), some (.d many), some (.d word), some (.d (tupI ns)), none, none, none, none, none]) (S' := S4) (by simp [e3, e4])]
    rw [seq_nx (σ' := [some (.r i), some (.d (.int w)), some (.d (.int n)), some (.d wide), some (.d many), some (.d word), some (.d (tupI ns)), some (.d odd), none, none, none, none]) (S' := S5) (by simp [e5])]
    rw [seq_nx (σ' := [some (.r i), some (.d (.int w)), some (.d (.int n)), some (.d wide), some (.d many), some (.d word), some (.d (tupI ns)), some (.d odd), some (.d free), none, none, none]) (S' := S5) (by
      generalize (eIf (tNt (tVal (eCall f__law_is_any (esCons (eVar 1) (esCons (eVar 7) esNil))))) (eVar 7) (eCa pListOf (esCons (eVar 6) esNil))) = J at ef ⊢
      simp [ef])]
    rw [seq_nx (σ' := [some (.r i), some (.d (.int w)), some (.d (.int n)), some (.d wide), some (.d many), some (.d word), some (.d (tupI ns)), some (.d odd), some (.d free), some (.r S5.length), none, none]) (S' := S5 ++ [.lst (([(Str.ofString "width")] : List Str).map .str)]) (by
      have := hand_width (σ := [some (.r i), some (.d (.int w)), some (.d (.int n)), some (.d wide), some (.d many), some (.d word), some (.d (tupI ns)), some (.d odd), some (.d free), none, none, none]) T5.t4 (ee := (eCall f_vector_sum (esCons (eVar 3) (esCons (eVar 4) (esCons (eVar 7) esNil))))) (by simp [r_sum_w g1])
      simp only [sNew, nLst, esCons, esNil] at this ⊢
      simp only [this, bnd_ok]
      simp [sz_le])]
    rw [seq_nx (app_step (σ := [some (.r i), some (.d (.int w)), some (.d (.int n)), some (.d wide), some (.d many), some (.d word), some (.d (tupI ns)), some (.d odd), some (.d free), some (.r S5.length), none, none]) (S := S5) (L := [(Str.ofString "width")]) (u := (Str.ofString "number " ++ many.shown)) rfl (hand_number T5.app.t4 (ee := (eCall f_vector_sum (esCons (eVar 1) (esCons (eVar 4) (esCons (eVar 7) esNil))))) (by simp [r_sum_n hw hw2 g2]) rm zm))]
    simp only [List.cons_append, List.nil_append]
    rw [seq_nx (app_step (σ := [some (.r i), some (.d (.int w)), some (.d (.int n)), some (.d wide), some (.d many), some (.d word), some (.d (tupI ns)), some (.d odd), some (.d free), some (.r S5.length), none, none]) (S := S5) (L := [(Str.ofString "width"), (Str.ofString "number " ++ many.shown)]) (u := (Str.ofString "vector")) rfl (hand_vector T5.app.t4 (ee := (eCall f_vector_sum (esCons (eVar 1) (esCons (eVar 2) (esCons (eVar 7) esNil))))) (by simp [r_sum_v hw hw2 hn zo go])))]
    simp only [List.cons_append, List.nil_append]
    rw [seq_nx (app_step (σ := [some (.r i), some (.d (.int w)), some (.d (.int n)), some (.d wide), some (.d many), some (.d word), some (.d (tupI ns)), some (.d odd), some (.d free), some (.r S5.length), none, none]) (S := S5) (L := [(Str.ofString "width"), (Str.ofString "number " ++ many.shown), (Str.ofString "vector")]) (u := (Str.ofString "vector")) rfl (hand_vector T5.app.t4 (ee := (eCall f_vector_sum (esCons (eVar 1) (esCons (eVar 2) (esCons (eVar 6) (esCons (eVar 7) esNil)))))) (by simp [r_sum_gv hw hw2 hn zg (vec_ok wn ln) zo go])))]
    simp only [List.cons_append, List.nil_append]
    rw [seq_nx (app_step (σ := [some (.r i), some (.d (.int w)), some (.d (.int n)), some (.d wide), some (.d many), some (.d word), some (.d (tupI ns)), some (.d odd), some (.d free), some (.r S5.length), none, none]) (S := S5) (L := [(Str.ofString "width"), (Str.ofString "number " ++ many.shown), (Str.ofString "vector"), (Str.ofString "vector")]) (u := (Str.ofString "width")) rfl (hand_width T5.app.t4 (ee := (eCall f_vector_multiple (esCons (eVar 3) (esCons (eVar 8) (esCons (eVar 5) esNil))))) (by simp [r_mul_w g1])))]
    simp only [List.cons_append, List.nil_append]
    rw [seq_nx (app_step (σ := [some (.r i), some (.d (.int w)), some (.d (.int n)), some (.d wide), some (.d many), some (.d word), some (.d (tupI ns)), some (.d odd), some (.d free), some (.r S5.length), none, none]) (S := S5) (L := [(Str.ofString "width"), (Str.ofString "number " ++ many.shown), (Str.ofString "vector"), (Str.ofString "vector"), (Str.ofString "width")]) (u := (Str.ofString "vector")) rfl (hand_vector T5.app.t4 (ee := (eCall f_vector_multiple (esCons (eVar 1) (esCons (eVar 8) (esCons (eVar 5) esNil))))) (by simp [r_mul_v hw hw2 zf gf])))]
    simp only [List.cons_append, List.nil_append]
    rw [seq_nx (app_step (σ := [some (.r i), some (.d (.int w)), some (.d (.int n)), some (.d wide), some (.d many), some (.d word), some (.d (tupI ns)), some (.d odd), some (.d free), some (.r S5.length), none, none]) (S := S5) (L := [(Str.ofString "width"), (Str.ofString "number " ++ many.shown), (Str.ofString "vector"), (Str.ofString "vector"), (Str.ofString "width"), (Str.ofString "vector")]) (u := (Str.ofString "number " ++ word.shown)) rfl (hand_number T5.app.t4 (ee := (eCall f_vector_multiple (esCons (eVar 1) (esCons (eVar 6) (esCons (eVar 5) esNil))))) (by simp [r_mul_f hw hw2 hn wn ln g3]) rw_ zw))]
    simp only [List.cons_append, List.nil_append]
    rw [seq_nx (app_step (σ := [some (.r i), some (.d (.int w)), some (.d (.int n)), some (.d wide), some (.d many), some (.d word), some (.d (tupI ns)), some (.d odd), some (.d free), some (.r S5.length), none, none]) (S := S5) (L := [(Str.ofString "width"), (Str.ofString "number " ++ many.shown), (Str.ofString "vector"), (Str.ofString "vector"), (Str.ofString "width"), (Str.ofString "vector"), (Str.ofString "number " ++ word.shown)]) (u := (Str.ofString "width")) rfl (hand_width T5.app.t4 (ee := (eCall f_dot_product (esCons (eVar 3) (esCons (eVar 8) (esCons (eLit (.int 0)) esNil))))) (by simp [r_dot_w g1])))]
    simp only [List.cons_append, List.nil_append]
    rw [seq_nx (app_step (σ := [some (.r i), some (.d (.int w)), some (.d (.int n)), some (.d wide), some (.d many), some (.d word), some (.d (tupI ns)), some (.d odd), some (.d free), some (.r S5.length), none, none]) (S := S5) (L := [(Str.ofString "width"), (Str.ofString "number " ++ many.shown), (Str.ofString "vector"), (Str.ofString "vector"), (Str.ofString "width"), (Str.ofString "vector"), (Str.ofString "number " ++ word.shown), (Str.ofString "width")]) (u := (Str.ofString "vector")) rfl (hand_vector T5.app.t4 (ee := (eCall f_dot_product (esCons (eVar 1) (esCons (eVar 8) (esCons (eVar 6) esNil))))) (by simp [r_dot_v hw hw2 zf gf])))]
    simp only [List.cons_append, List.nil_append]
    rw [seq_nx (app_step (σ := [some (.r i), some (.d (.int w)), some (.d (.int n)), some (.d wide), some (.d many), some (.d word), some (.d (tupI ns)), some (.d odd), some (.d free), some (.r S5.length), none, none]) (S := S5) (L := [(Str.ofString "width"), (Str.ofString "number " ++ many.shown), (Str.ofString "vector"), (Str.ofString "vector"), (Str.ofString "width"), (Str.ofString "vector"), (Str.ofString "number " ++ word.shown), (Str.ofString "width"), (Str.ofString "vector")]) (u := (Str.ofString "vector")) rfl (hand_vector T5.app.t4 (ee := (eCall f_dot_product (esCons (eVar 1) (esCons (eVar 6) (esCons (eVar 7) esNil))))) (by simp [r_dot_o hw hw2 hn wn ln zo go])))]
    simp only [List.cons_append, List.nil_append]
    rw [seq_nx (app_step (σ := [some (.r i), some (.d (.int w)), some (.d (.int n)), some (.d wide), some (.d many), some (.d word), some (.d (tupI ns)), some (.d odd), some (.d free), some (.r S5.length), none, none]) (S := S5) (L := [(Str.ofString "width"), (Str.ofString "number " ++ many.shown), (Str.ofString "vector"), (Str.ofString "vector"), (Str.ofString "width"), (Str.ofString "vector"), (Str.ofString "number " ++ word.shown), (Str.ofString "width"), (Str.ofString "vector"), (Str.ofString "vector")]) (u := (Str.ofString "width")) rfl (hand_width T5.app.t4 (ee := (eCall f_word_level (esCons (eVar 3) (esCons (eVar 5) esNil)))) (by simp [r_lev_w g1])))]
    simp only [List.cons_append, List.nil_append]
    rw [seq_nx (app_step (σ := [some (.r i), some (.d (.int w)), some (.d (.int n)), some (.d wide), some (.d many), some (.d word), some (.d (tupI ns)), some (.d odd), some (.d free), some (.r S5.length), none, none]) (S := S5) (L := [(Str.ofString "width"), (Str.ofString "number " ++ many.shown), (Str.ofString "vector"), (Str.ofString "vector"), (Str.ofString "width"), (Str.ofString "vector"), (Str.ofString "number " ++ word.shown), (Str.ofString "width"), (Str.ofString "vector"), (Str.ofString "vector"), (Str.ofString "width")]) (u := (Str.ofString "number " ++ word.shown)) rfl (hand_number T5.app.t4 (ee := (eCall f_word_level (esCons (eVar 1) (esCons (eVar 5) esNil)))) (by simp [r_lev_v hw hw2 g3]) rw_ zw))]
    simp only [List.cons_append, List.nil_append]
    rw [seq_nx (app_step (σ := [some (.r i), some (.d (.int w)), some (.d (.int n)), some (.d wide), some (.d many), some (.d word), some (.d (tupI ns)), some (.d odd), some (.d free), some (.r S5.length), none, none]) (S := S5) (L := [(Str.ofString "width"), (Str.ofString "number " ++ many.shown), (Str.ofString "vector"), (Str.ofString "vector"), (Str.ofString "width"), (Str.ofString "vector"), (Str.ofString "number " ++ word.shown), (Str.ofString "width"), (Str.ofString "vector"), (Str.ofString "vector"), (Str.ofString "width"), (Str.ofString "number " ++ word.shown)]) (u := (Str.ofString "width")) rfl (hand_width T5.app.t4 (ee := (eCall f_word_inverse (esCons (eVar 3) (esCons (eVar 5) esNil)))) (by simp [r_inv_w g1])))]
    simp only [List.cons_append, List.nil_append]
    rw [seq_nx (app_step (σ := [some (.r i), some (.d (.int w)), some (.d (.int n)), some (.d wide), some (.d many), some (.d word), some (.d (tupI ns)), some (.d odd), some (.d free), some (.r S5.length), none, none]) (S := S5) (L := [(Str.ofString "width"), (Str.ofString "number " ++ many.shown), (Str.ofString "vector"), (Str.ofString "vector"), (Str.ofString "width"), (Str.ofString "vector"), (Str.ofString "number " ++ word.shown), (Str.ofString "width"), (Str.ofString "vector"), (Str.ofString "vector"), (Str.ofString "width"), (Str.ofString "number " ++ word.shown), (Str.ofString "width")]) (u := (Str.ofString "number " ++ word.shown)) rfl (hand_number T5.app.t4 (ee := (eCall f_word_inverse (esCons (eVar 1) (esCons (eVar 5) esNil)))) (by simp [r_inv_v hw hw2 g3]) rw_ zw))]
    simp only [List.cons_append, List.nil_append]
    rw [seq_nx (σ' := [some (.r i), some (.d (.int w)), some (.d (.int n)), some (.d wide), some (.d many), some (.d word), some (.d (tupI ns)), some (.d odd), some (.d free), some (.r S5.length), some (.d (.list [.str (Str.ofString "number " ++ many.shown), .str (Str.ofString "number " ++ word.shown)])), none]) (S' := S5 ++ [.lst (([(Str.ofString "width"), (Str.ofString "number " ++ many.shown), (Str.ofString "vector"), (Str.ofString "vector"), (Str.ofString "width"), (Str.ofString "vector"), (Str.ofString "number " ++ word.shown), (Str.ofString "width"), (Str.ofString "vector"), (Str.ofString "vector"), (Str.ofString "width"), (Str.ofString "number " ++ word.shown), (Str.ofString "width"), (Str.ofString "number " ++ word.shown)] : List Str).map .str)]) (by simp [rm, zm, rw_, zw, k7, sz_le])]
    rw [seq_nx (σ' := [some (.r i), some (.d (.int w)), some (.d (.int n)), some (.d wide), some (.d many), some (.d word), some (.d (tupI ns)), some (.d odd), some (.d free), some (.r S5.length), some (.d (.list [.str (Str.ofString "number " ++ many.shown), .str (Str.ofString "number " ++ word.shown)])), some (.d (.list [.str (Str.ofString "width"), .str (Str.ofString "number " ++ many.shown), .str (Str.ofString "vector"), .str (Str.ofString "vector"), .str (Str.ofString "width"), .str (Str.ofString "vector"), .str (Str.ofString "number " ++ word.shown), .str (Str.ofString "width"), .str (Str.ofString "vector"), .str (Str.ofString "vector")]))]) (S' := S5 ++ [.lst (([(Str.ofString "width"), (Str.ofString "number " ++ many.shown), (Str.ofString "vector"), (Str.ofString "vector"), (Str.ofString "width"), (Str.ofString "vector"), (Str.ofString "number " ++ word.shown), (Str.ofString "width"), (Str.ofString "vector"), (Str.ofString "vector"), (Str.ofString "width"), (Str.ofString "number " ++ word.shown), (Str.ofString "width"), (Str.ofString "number " ++ word.shown)] : List Str).map .str)]) (by simp [atI, ixN, sz_le])]
    have hA : ∀ x ∈ ([(Str.ofString "width"), (Str.ofString "number " ++ many.shown), (Str.ofString "vector"), (Str.ofString "vector"), (Str.ofString "width"), (Str.ofString "vector"), (Str.ofString "number " ++ word.shown), (Str.ofString "width"), (Str.ofString "vector"), (Str.ofString "vector"), (Str.ofString "width"), (Str.ofString "number " ++ word.shown), (Str.ofString "width"), (Str.ofString "number " ++ word.shown)] : List Str), asc x = true := by
      have a1 : asc (Str.ofString "width") = true := by decide +kernel
      have a2 : asc (Str.ofString "vector") = true := by decide +kernel
      have a3 : asc (Str.ofString "number " ++ many.shown) = true := asc_app (by decide +kernel) am
      have a4 : asc (Str.ofString "number " ++ word.shown) = true := asc_app (by decide +kernel) aw
      exact forall_cons a1 <| forall_cons a3 <| forall_cons a2 <| forall_cons a2 <| forall_cons a1 <| forall_cons a2 <| forall_cons a4 <| forall_cons a1 <| forall_cons a2 <| forall_cons a2 <| forall_cons a1 <| forall_cons a4 <| forall_cons a1 <| forall_cons a4 <| forall_nil
    have ho := okD_strs hA
    have he := eqv_strs [(Str.ofString "width"), (Str.ofString "number " ++ many.shown), (Str.ofString "vector"), (Str.ofString "vector"), (Str.ofString "width"), (Str.ofString "vector"), (Str.ofString "number " ++ word.shown), (Str.ofString "width"), (Str.ofString "vector"), (Str.ofString "vector"), (Str.ofString "width"), (Str.ofString "number " ++ word.shown), (Str.ofString "width"), (Str.ofString "number " ++ word.shown)]
    simp only [List.map_cons, List.map_nil] at ho he ⊢
    simp [k1, atI, ixN, ho, he, sz_le]
  simp [f__law_errors_right, hm, k3, ← hl]
end T
set_option maxRecDepth 100000
set_option maxHeartbeats 4000000
namespace T
open PySem PySem.Spec PyProof.Rows L2 Z
theorem cmp_ints {g : Tg} {e : Ex} {σ0 : Sg} {S : Sto} (f : Int → Int) (ns : List Int) (hz : ns.length ≤ sizeLine)
    (h : ∀ n ∈ ns, ∃ σ1, g (.int n) σ0 = some σ1 ∧ e σ1 S = some (.ok (.d (.int (f n))) S)) : cmpGo none g tTrue e σ0 (ns.map .int) [] S = some (S, (ns.map f).map .int) := by
  have key := cmpGo_map (g := g) (e := e) (σ0 := σ0) (S := S) (fun d => match d with | .int n => .int (f n) | d => d) (ns.map .int) [] (fun d hd => by
    obtain ⟨n, hn, rfl⟩ := List.mem_map.mp hd
    exact h n hn) (by simpa using hz)
  rw [key]
  simp
def mulW (w : Nat) (ns : List Int) (f : Int) : List Int := ns.map fun x => f * x % 2 ^ w
theorem mask_eq {x : Int} {w : Nat} (hx : 0 ≤ x) : Builtin.bitAnd x (2 ^ w - 1) = x % 2 ^ w := Bits.bitAnd_mask w hx
theorem p_multiplied {S : Sto} {w : Nat} {ns : List Int} {f : Int} (hw2 : w ≤ 16) (hz : ns.length ≤ 40) (h1 : wordsW w ns) (hf0 : 0 ≤ f) (hf : short f) : f_multiplied [.d (.int w), .d (tupI ns), .d (.int f)] S = some (.ok (.d (tupI (mulW w ns f))) S) := by
  have hs : short 1 := by unfold short; omega
  have hwl : (w : Int) ≤ 1000000 := by omega
  have hc := cmp_ints (g := gVar 4) (e := (eBin pAnd (eBin pTimes (eVar 4) (eVar 2)) (eVar 3))) (σ0 := [some (.d (.int w)), some (.d (tupI ns)), some (.d (.int f)), some (.d (.int (2 ^ w - 1))), none]) (S := S) (fun x => f * x % 2 ^ w) ns (sz_le (by omega)) fun n hn => ⟨_, rfl, by
    have := mask_eq (x := n * f) (w := w) (Int.mul_nonneg (h1 n hn).1 hf0)
    rw [Int.mul_comm f n]
    simp [this, hf]⟩
  simp only [tupI, List.nil_append] at hc
  simp [f_multiplied, m_multiplied, tupI, hc, mulW, hs, hwl]
theorem eBin_eq' {a b : Ex} {σ : Sg} {S : Sto} {x : List PyData} (ha : a σ S = some (.ok (.d (.tuple x)) S)) (hb : b σ S = some (.ok (.d (.tuple x)) S)) (ho : okD (.tuple x) = true) (he : PyData.eqv (.tuple x) (.tuple x) = true) : (eBin pEq a b) σ S = some (.ok (.d (.bool true)) S) := by
  simp [ha, hb, ho, he]
def r40 (x : Int) : List Int := List.replicate 40 x
def one41 : PyData := .tuple (List.replicate 41 (.int 1))
noncomputable abbrev lwB (tp : Nat → Addr) : Sm := (sIf (tNt (tVal (eCall (f__law_word_right tp) (esCons (eLit (.int 16)) (esCons (eVar 0) esNil))))) (sRet (eLit (.bool false))) sNil)
theorem long_right {S : Sto} {tp : Nat → Addr} (t : Tb tp S) : f__law_long_right tp [] S = some (.ok (.d (.bool true)) S) := by
  have T1 : ∀ (o : Ob), (S ++ [o])[5]? = some (.tab (lamQ (Str.ofString "_law_long_right")) (tp 5)) := fun o => app_getS t.t5
  have k1 : ∀ o, (S ++ [o])[S.length]? = some o := fun o => by simp
  have k2 : ∀ o o', (S ++ [o]).set S.length o' = S ++ [o'] := fun o o' => by simp
  have k3 : ∀ o, (S ++ [o]).take S.length = S := fun o => by simp
  have z5 : ∀ n, n ≤ 10 → n < sizeLine := fun n hn => sz_lt (by omega)
  have hws : ∀ d ∈ [PyData.int 3, .int 5, .int 7, .int 12345, .int 40503, .int 65533, .int 32768, .int 49152], ∃ x : Int, d = .int x ∧ 0 ≤ x ∧ x < 2 ^ 16 :=
    forall_cons ⟨3, rfl, by decide, by decide⟩ <| forall_cons ⟨5, rfl, by decide, by decide⟩ <| forall_cons ⟨7, rfl, by decide, by decide⟩ <| forall_cons ⟨12345, rfl, by decide, by decide⟩ <| forall_cons ⟨40503, rfl, by decide, by decide⟩ <|
    forall_cons ⟨65533, rfl, by decide, by decide⟩ <| forall_cons ⟨32768, rfl, by decide, by decide⟩ <| forall_cons ⟨49152, rfl, by decide, by decide⟩ forall_nil
  obtain ⟨σ', S', eL, rfl, x', rfl⟩ := forGo_inv (g := gVar 0) (body := lwB tp) (fun _ σ T => T = S ∧ ∃ x : Option SV, σ = [x, none]) [PyData.int 3, .int 5, .int 7, .int 12345, .int 40503, .int 65533, .int 32768, .int 49152] 0 (by
    rintro j d σ T hd ⟨rfl, x, rfl⟩
    obtain ⟨v, rfl, v0, v1⟩ := hws d (List.mem_of_getElem? hd)
    have e : f__law_word_right tp [.d (.int 16), .d (.int v)] T = some (.ok (.d (.bool true)) T) := word_right (w := 16) t (by omega) (by omega) v0 v1
    have hb : lwB tp [some (.d (.int v)), none] T = some (.nx [some (.d (.int v)), none] T) := by simp [lwB, e]
    exact ⟨_, rfl, _, _, hb, rfl, _, rfl⟩) [none, none] S ⟨rfl, _, rfl⟩
  have zo : ∀ ds, one41 = .tuple ds → ds.length ≤ sizeLine := fun ds e => by
    unfold one41 at e
    cases e
    exact sz_le (by decide)
  have zn : ∀ ds, PyData.tuple [] = .tuple ds → ds.length ≤ sizeLine := fun ds e => by
    cases e
    exact sz_le (by decide)
  have i1 : isAny 3 one41 = false := by decide +kernel
  have i2 : isAny 3 (.tuple []) = false := by decide +kernel
  have f1 : ∀ T v, f_vector_multiple [.d (.int 3), .d one41, .d v] T = some (.exc xV T) := fun T v => r_mul_v (w := 3) (by omega) (by omega) zo i1
  have f2 : ∀ T v, f_vector_multiple [.d (.int 3), .d (.tuple []), .d v] T = some (.exc xV T) := fun T v => r_mul_v (w := 3) (by omega) (by omega) zn i2
  have f3 : ∀ T v, f_dot_product [.d (.int 3), .d one41, .d v] T = some (.exc xV T) := fun T v => r_dot_v (w := 3) (by omega) (by omega) zo i1
  have f4 : ∀ T v, f_dot_product [.d (.int 3), .d (.tuple []), .d v] T = some (.exc xV T) := fun T v => r_dot_v (w := 3) (by omega) (by omega) zn i2
  have hq : ∀ (σ : Sg) T, (eBin pTimes (eCa dispT (esCons (eLit (.int 1)) esNil)) (eLit (.int 41))) σ T = some (.ok (.d one41) T) := fun σ T => by simp [one41, sz_le]
  have w5 : wordsW 3 (r40 5) := fun n hn => by
    cases (List.mem_replicate.mp hn).2
    decide
  have hmul : ∀ T, f_vector_multiple [.d (.int 3), .d (tupI (r40 5)), .d (.int 3)] T = some (.ok (.d (tupI (r40 7))) T) := fun T => by
    have a1 : f_need_width [.d (.int 3)] T = some (.ok (.d .none) T) := p_ok_width (w := 3) (by omega) (by omega)
    have a2 : f_need_any_vector [.d (.int 3), .d (tupI (r40 5))] T = some (.ok (.d .none) T) := any_ok (w := 3) (n := 40) (by omega) (by omega) w5 (by simp [r40])
    have a3 : f_need_word [.d (.int 3), .d (.int 3)] T = some (.ok (.d .none) T) := p_ok_word (w := 3) (by omega) (by decide +kernel)
    have a4 := p_multiplied (S := T) (w := 3) (ns := r40 5) (f := 3) (by omega) (by simp [r40]) w5 (by omega) (by unfold short; omega)
    rw [show mulW 3 (r40 5) 3 = r40 7 by decide +kernel] at a4
    have a4 : f_multiplied [.d (.int 3), .d (tupI (r40 5)), .d (.int 3)] T = some (.ok (.d (tupI (r40 7))) T) := a4
    generalize tupI (r40 5) = A at *
    generalize tupI (r40 7) = B at *
    simp [f_vector_multiple, m_vector_multiple, a1, a2, a3, a4]
  have h5 : ∀ (σ : Sg) T, (eBin pTimes (eCa dispT (esCons (eLit (.int 5)) esNil)) (eLit (.int 40))) σ T = some (.ok (.d (tupI (r40 5))) T) := fun σ T => by simp [r40, tupI, sz_le]
  have h7 : ∀ (σ : Sg) T, (eBin pTimes (eCa dispT (esCons (eLit (.int 7)) esNil)) (eLit (.int 40))) σ T = some (.ok (.d (tupI (r40 7))) T) := fun σ T => by simp [r40, tupI, sz_le]
  have hm : m__law_long_right tp [none, none] S' = some (.rt (.d (.bool true)) (S' ++ [.lst [.str (Str.ofString "vector"), .str (Str.ofString "vector"), .str (Str.ofString "vector"), .str (Str.ofString "vector")]])) := by
    unfold m__law_long_right
    rw [seq_nx (σ' := [x', none]) (S' := S') (by
      show Sm.bnd ((wSeq (eCa dispT (esCons (eLit (.int 3)) (esCons (eLit (.int 5)) (esCons (eLit (.int 7)) (esCons (eLit (.int 12345)) (esCons (eLit (.int 40503)) (esCons (eLit (.int 65533)) (esCons (eLit (.int 32768)) (esCons (eLit (.int 49152)) esNil)))))))))) [none, none] S') (fun wk S1 => forGo wk.own (gVar 0) (lwB tp) wk.ds [none, none] S1) = _
      rw [show (wSeq (eCa dispT (esCons (eLit (.int 3)) (esCons (eLit (.int 5)) (esCons (eLit (.int 7)) (esCons (eLit (.int 12345)) (esCons (eLit (.int 40503)) (esCons (eLit (.int 65533)) (esCons (eLit (.int 32768)) (esCons (eLit (.int 49152)) esNil)))))))))) [none, none] S' = some (.ok ⟨[PyData.int 3, .int 5, .int 7, .int 12345, .int 40503, .int 65533, .int 32768, .int 49152], none⟩ S') by simp [sz_le]]
      exact eL)]
    generalize (eBin pTimes (eCa dispT (esCons (eLit (.int 1)) esNil)) (eLit (.int 41))) = Q at hq ⊢
    generalize (eBin pTimes (eCa dispT (esCons (eLit (.int 5)) esNil)) (eLit (.int 40))) = Q5 at h5 ⊢
    generalize (eBin pTimes (eCa dispT (esCons (eLit (.int 7)) esNil)) (eLit (.int 40))) = Q7 at h7 ⊢
    rw [seq_nx (σ' := [x', some (.r S'.length)]) (S' := S' ++ [.lst [.str (Str.ofString "vector")]]) (by
      have := hand_vector (σ := [x', none]) t.t5 (ee := (eCall f_vector_multiple (esCons (eLit (.int 3)) (esCons Q (esCons (eLit (.int 1)) esNil))))) (by simp [hq, f1])
      simp only [sNew, nLst, esCons, esNil] at this ⊢
      simp only [this, bnd_ok]
      simp [sz_le])]
    rw [seq_nx (σ' := [x', some (.r S'.length)]) (S' := S' ++ [.lst [.str (Str.ofString "vector"), .str (Str.ofString "vector")]]) (by
      have := hand_vector (σ := [x', some (.r S'.length)]) (T1 (.lst [.str (Str.ofString "vector")])) (ee := (eCall f_vector_multiple (esCons (eLit (.int 3)) (esCons (eCa dispT esNil) (esCons (eLit (.int 1)) esNil))))) (by simp [f2, sz_le])
      simp only [sDo, eApp, this, eVar, List.getElem?_cons_succ, List.getElem?_cons_zero, bnd_ok]
      simp [k1, k2, z5])]
    rw [seq_nx (σ' := [x', some (.r S'.length)]) (S' := S' ++ [.lst [.str (Str.ofString "vector"), .str (Str.ofString "vector"), .str (Str.ofString "vector")]]) (by
      have := hand_vector (σ := [x', some (.r S'.length)]) (T1 (.lst [.str (Str.ofString "vector"), .str (Str.ofString "vector")])) (ee := (eCall f_dot_product (esCons (eLit (.int 3)) (esCons Q (esCons Q esNil))))) (by simp [hq, f3])
      simp only [sDo, eApp, this, eVar, List.getElem?_cons_succ, List.getElem?_cons_zero, bnd_ok]
      simp [k1, k2, z5])]
    rw [seq_nx (σ' := [x', some (.r S'.length)]) (S' := S' ++ [.lst [.str (Str.ofString "vector"), .str (Str.ofString "vector"), .str (Str.ofString "vector"), .str (Str.ofString "vector")]]) (by
      have := hand_vector (σ := [x', some (.r S'.length)]) (T1 (.lst [.str (Str.ofString "vector"), .str (Str.ofString "vector"), .str (Str.ofString "vector")])) (ee := (eCall f_dot_product (esCons (eLit (.int 3)) (esCons (eCa dispT esNil) (esCons (eCa dispT esNil) esNil))))) (by simp [f4, sz_le])
      simp only [sDo, eApp, this, eVar, List.getElem?_cons_succ, List.getElem?_cons_zero, bnd_ok]
      simp [k1, k2, z5])]
    have ho : okD (.list [.str (Str.ofString "vector"), .str (Str.ofString "vector"), .str (Str.ofString "vector"), .str (Str.ofString "vector")]) = true := by decide +kernel
    have he : PyData.eqv (.list [.str (Str.ofString "vector"), .str (Str.ofString "vector"), .str (Str.ofString "vector"), .str (Str.ofString "vector")]) (.list [.str (Str.ofString "vector"), .str (Str.ofString "vector"), .str (Str.ofString "vector"), .str (Str.ofString "vector")]) = true := by decide +kernel
    have ho2 : okD (tupI (r40 7)) = true := by decide +kernel
    have he2 : PyData.eqv (tupI (r40 7)) (tupI (r40 7)) = true := by decide +kernel
    have hA : ∀ σ T, (eCall f_vector_multiple (esCons (eLit (.int 3)) (esCons Q5 (esCons (eLit (.int 3)) esNil)))) σ T = some (.ok (.d (tupI (r40 7))) T) := fun σ T => by simp only [eCall, esCons, esNil, eLit, h5, bnd_ok, hmul]
    have hB : ∀ σ T, (eBin pEq (eCall f_vector_multiple (esCons (eLit (.int 3)) (esCons Q5 (esCons (eLit (.int 3)) esNil)))) Q7) σ T = some (.ok (.d (.bool true)) T) := fun σ T => eBin_eq' (x := (r40 7).map .int) (hA σ T) (h7 σ T) ho2 he2
    generalize (eBin pEq (eCall f_vector_multiple (esCons (eLit (.int 3)) (esCons Q5 (esCons (eLit (.int 3)) esNil)))) Q7) = R at hB ⊢
    simp [k1, ho, he, hB, sz_le]
  simp [f__law_long_right, hm, k3]
end T
set_option maxRecDepth 100000
set_option maxHeartbeats 4000000
namespace T
open PySem PySem.Spec PyProof.Rows L2 Z
/-- a comprehension that draws -/
theorem cmp_draw {g : Tg} {e : Ex} {σ0 : Sg} {i : Nat} {P : PyData → Prop} (ds : List PyData) (hz : ds.length ≤ sizeLine) {S : Sto} (h : StrAt S i)
    (ht : ∀ d ∈ ds, ∀ T, StrAt T i → T.length = S.length → (∀ j, j ≠ i → T[j]? = S[j]?) → ∃ σ1, g d σ0 = some σ1 ∧ ∃ y T', Dr T i T' ∧ P y ∧ e σ1 T = some (.ok (.d y) T')) :
    ∃ (out : List PyData) (S' : Sto), Dr S i S' ∧ out.length = ds.length ∧ (∀ y ∈ out, P y) ∧ cmpGo none g tTrue e σ0 ds [] S = some (S', out) := by
  obtain ⟨S', out, e1, ⟨q1, q2⟩, q3⟩ := cmpGo_inv (g := g) (t := tTrue) (e := e) (σ0 := σ0) (fun _ T ac => Dr S i T ∧ ∀ y ∈ ac, P y) ds 0 [] (fun j d T ac hd ⟨hT, hac⟩ _ => by
    obtain ⟨σ1, e1, y, T', d1, py, e2⟩ := ht d (List.mem_of_getElem? hd) T (hT.at h.lt) hT.len (fun j hj => by
      obtain ⟨a, b, c, _, rfl⟩ := hT
      exact List.getElem?_set_ne (Ne.symm hj))
    exact ⟨σ1, e1, T, rfl, y, T', e2, hT.trans d1, fun z hz => (List.mem_append.mp hz).elim (hac z) fun q => by
      rw [List.mem_singleton.mp q]; exact py⟩) (by simpa using hz) S ⟨Dr.self h, fun y hy => nomatch hy⟩
  exact ⟨out, S', q1, by simpa using q3, q2, e1⟩
theorem word_ {S : Sto} {i w : Nat} (h : StrAt S i) (hw : 1 ≤ w) (hw2 : w ≤ 16) : ∃ (x : Int) (S' : Sto), Dr S i S' ∧ (0 ≤ x ∧ x < 2 ^ w) ∧ f__law_word [.r i, .d (.int w)] S = some (.ok (.d (.int x)) S') := by
  obtain ⟨ns, S', d1, l1, hns, e1⟩ := row h hw hw2 (n := 1) (by omega)
  have hl := d1.len
  match ns, l1, hns, e1 with
  | [x], _, hns, e1 =>
    have hx := hns x (by simp)
    have e1 : f__law_row [.r i, .d (.int w), .d (.int 1)] S = some (.ok (.d (.tuple [.int x])) S') := e1
    exact ⟨x, S', d1, hx, by simp [f__law_word, m__law_word, e1, atI, ixN, ← hl]⟩
noncomputable abbrev wrB (tp : Nat → Addr) : Sm := (sIf (tNt (tVal (eCall (f__law_word_right tp) (esCons (eVar 3) (esCons (eVar 7) esNil))))) (sRet (eLit (.bool false))) sNil)
noncomputable abbrev turn (tp : Nat → Addr) : Sm := (sSeq (sNew 2 (nCall f__law_stream (esCons (eVar 0) (esCons (eVar 1) esNil))))
    (sSeq (sAsg (gPair (gVar 3) (gVar 4)) (eCa dispT (esCons (eCall f__law_width (esCons (eVar 2) esNil)) (esCons (eCall f__law_size (esCons (eVar 2) esNil)) esNil))))
    (sSeq (sSet 5 (eComp (wRng1 (eLit (.int 12))) (gVar 6) tTrue (eCall f__law_word (esCons (eVar 2) (esCons (eVar 3) esNil))) [6]))
    (sSeq (sIf (tVal (eBin pLt (eVar 3) (eLit (.int 5)))) (sSet 5 (eUn pLRg (eBin pShl (eLit (.int 1)) (eVar 3)))) sNil)
    (sSeq (sFor (wSeq (eBin pPlus (eVar 5) (eCa dispL (esCons (eLit (.int 0)) (esCons (eLit (.int 1)) (esCons (eBin pSub (eBin pShl (eLit (.int 1)) (eVar 3)) (eLit (.int 1))) esNil)))))) (gVar 7) (wrB tp))
    (sIf (tNt (tVal (eCall (f__law_errors_right tp) (esCons (eVar 2) (esCons (eVar 3) (esCons (eVar 4) esNil)))))) (sRet (eLit (.bool false))) sNil))))))
def wordD (w : Nat) (d : PyData) : Prop := ∃ x : Int, d = .int x ∧ 0 ≤ x ∧ x < 2 ^ w
theorem law_turn {tp : Nat → Addr} {ns : List Int} {j : Nat} {x2 x3 x4 x5 x6 x7 : Option SV} {T : Sto} (t : Tb tp T) : ∃ (y2 y3 y4 y5 y6 y7 : Option SV) (T' : Sto), Tb tp T' ∧
    turn tp [some (.s ns), some (.d (.int j)), x2, x3, x4, x5, x6, x7] T = some (.nx [some (.s ns), some (.d (.int j)), y2, y3, y4, y5, y6, y7] T') := by
  have h6 : 6 ≤ T.length := (List.getElem?_eq_some_iff.mp t.t5).1
  obtain ⟨a0, b0, ha0, e0⟩ := stream (ns := ns) (k := j) (S := T)
  have s0 : StrAt (T ++ [.lst [.int a0, .int b0, .int 0]]) T.length := ⟨a0, b0, 0, ha0, by simp⟩
  obtain ⟨w, T1, hw, hw2, d1, e1⟩ := law_width s0
  have s1 := d1.at s0.lt
  obtain ⟨n, T2, hn, hn2, d2, e2⟩ := law_size s1
  have s2 := d2.at s1.lt
  have hp := pow_w hw2
  have hw1 : (1 : Int) < 2 ^ w := by
    have a : (2 : Nat) ^ 1 ≤ 2 ^ w := Nat.pow_le_pow_right (by omega) hw
    have b : ((2 ^ w : Nat) : Int) = 2 ^ w := by rw [Int.natCast_pow]; rfl
    omega
  have h62 : small62 12 := by unfold small62; omega
  have hs1 : short 1 := by unfold short; omega
  have hwl : (w : Int) ≤ 1000000 := by omega
  obtain ⟨out, T3, d3, l3, p3, e3⟩ := cmp_draw (g := gVar 6) (e := (eCall f__law_word (esCons (eVar 2) (esCons (eVar 3) esNil)))) (σ0 := [some (.s ns), some (.d (.int j)), some (.r T.length), some (.d (.int w)), some (.d (.int n)), x5, none, x7]) (P := wordD w) (upTo 0 12) (by rw [upTo_len]; exact sz_le (by omega)) s2 (fun d _ U hU _ _ => by
    obtain ⟨x, U', q1, q2, q3⟩ := word_ hU hw hw2
    exact ⟨_, rfl, .int x, U', q1, ⟨x, rfl, q2⟩, by simp [q3]⟩)
  have s3 := d3.at s2.lt
  rw [upTo_len] at l3
  have t3 := t.app.dr ((d1.trans d2).trans d3) h6
  obtain ⟨T4, d4, e4⟩ := errors_right s3 h6 t3 hw hw2 ⟨hn, hn2⟩
  obtain ⟨L, hLl, hL, eL⟩ : ∃ L : List PyData, L.length ≤ 1000 ∧ (∀ d ∈ L, wordD w d) ∧ (sIf (tVal (eBin pLt (eVar 3) (eLit (.int 5)))) (sSet 5 (eUn pLRg (eBin pShl (eLit (.int 1)) (eVar 3)))) sNil) [some (.s ns), some (.d (.int j)), some (.r T.length), some (.d (.int w)), some (.d (.int n)), some (.d (.list out)), x6, x7] T3 = some (.nx [some (.s ns), some (.d (.int j)), some (.r T.length), some (.d (.int w)), some (.d (.int n)), some (.d (.list L)), x6, x7] T3) := by
    by_cases h5 : w < 5
    · have h5' : (w : Int) < 5 := by omega
      have hle : ((2 : Int) ^ w).toNat ≤ 16 := by
        have a : (2 : Nat) ^ w ≤ 2 ^ 4 := Nat.pow_le_pow_right (by omega) (by omega)
        have b : ((2 ^ w : Nat) : Int) = 2 ^ w := by rw [Int.natCast_pow]; rfl
        omega
      have h0 : (0 : Int) ≤ 2 ^ w := by omega
      have hz : (2 : Int) ^ w ≤ ((sizeLine : Nat) : Int) := by rw [sizeLine_eq]; omega
      refine ⟨upTo 0 ((2 : Int) ^ w).toNat, by rw [upTo_len]; omega, fun d hd => ?_, by simp [h5', hs1, hwl, h0, hz]⟩
      obtain ⟨k, hk⟩ := List.getElem?_of_mem hd
      obtain ⟨hk2, rfl⟩ := upTo_get hk
      exact ⟨_, rfl, by omega, by omega⟩
    · have h5' : ¬ (w : Int) < 5 := by omega
      exact ⟨out, by omega, p3, by simp [h5']⟩
  have hL3 : ∀ d ∈ L ++ [PyData.int 0, .int 1, .int (2 ^ w - 1)], wordD w d := fun d hd => (List.mem_append.mp hd).elim (hL d) fun z =>
    forall_cons (p := wordD w) ⟨0, rfl, by omega, by omega⟩ (forall_cons ⟨1, rfl, by omega, by omega⟩ (forall_cons ⟨_, rfl, by omega, by omega⟩ forall_nil)) d z
  obtain ⟨σ', T', eF, hT', y7, rfl⟩ := forGo_inv (g := gVar 7) (body := wrB tp) (fun _ σ U => U = T3 ∧ ∃ x7 : Option SV, σ = [some (.s ns), some (.d (.int j)), some (.r T.length), some (.d (.int w)), some (.d (.int n)), some (.d (.list L)), x6, x7]) (L ++ [PyData.int 0, .int 1, .int (2 ^ w - 1)]) 0 (by
    rintro k d σ U hd ⟨rfl, x7, rfl⟩
    obtain ⟨v, rfl, v0, v1⟩ := hL3 d (List.mem_of_getElem? hd)
    have e := word_right (w := w) t3 hw hw2 v0 v1
    have hb : wrB tp [some (.s ns), some (.d (.int j)), some (.r T.length), some (.d (.int w)), some (.d (.int n)), some (.d (.list L)), x6, some (.d (.int v))] U = some (.nx [some (.s ns), some (.d (.int j)), some (.r T.length), some (.d (.int w)), some (.d (.int n)), some (.d (.list L)), x6, some (.d (.int v))] U) := by simp [wrB, e]
    exact ⟨_, rfl, _, _, hb, rfl, _, rfl⟩) [some (.s ns), some (.d (.int j)), some (.r T.length), some (.d (.int w)), some (.d (.int n)), some (.d (.list L)), x6, x7] T3 ⟨rfl, _, rfl⟩
  rw [hT'] at eF
  refine ⟨some (.r T.length), some (.d (.int w)), some (.d (.int n)), some (.d (.list L)), x6, y7, T4, t3.dr d4 h6, ?_⟩
  have zL : L.length + 3 ≤ sizeLine := by rw [sizeLine_eq]; omega
  unfold turn
  rw [seq_nx (σ' := [some (.s ns), some (.d (.int j)), some (.r T.length), x3, x4, x5, x6, x7]) (S' := T ++ [.lst [.int a0, .int b0, .int 0]]) (by simp [e0])]
  rw [seq_nx (σ' := [some (.s ns), some (.d (.int j)), some (.r T.length), some (.d (.int w)), some (.d (.int n)), x5, x6, x7]) (S' := T2) (by simp [e1, e2])]
  rw [seq_nx (σ' := [some (.s ns), some (.d (.int j)), some (.r T.length), some (.d (.int w)), some (.d (.int n)), some (.d (.list out)), x6, x7]) (S' := T3) (by simp [h62, e3])]
  rw [seq_nx eL]
  rw [seq_nx (σ' := [some (.s ns), some (.d (.int j)), some (.r T.length), some (.d (.int w)), some (.d (.int n)), some (.d (.list L)), x6, y7]) (S' := T3) (by
    have hwk : (wSeq (eBin pPlus (eVar 5) (eCa dispL (esCons (eLit (.int 0)) (esCons (eLit (.int 1)) (esCons (eBin pSub (eBin pShl (eLit (.int 1)) (eVar 3)) (eLit (.int 1))) esNil)))))) [some (.s ns), some (.d (.int j)), some (.r T.length), some (.d (.int w)), some (.d (.int n)), some (.d (.list L)), x6, x7] T3 = some (.ok ⟨L ++ [PyData.int 0, .int 1, .int (2 ^ w - 1)], none⟩ T3) := by
      simp [hs1, hwl, zL, sz_le]
    show Sm.bnd ((wSeq (eBin pPlus (eVar 5) (eCa dispL (esCons (eLit (.int 0)) (esCons (eLit (.int 1)) (esCons (eBin pSub (eBin pShl (eLit (.int 1)) (eVar 3)) (eLit (.int 1))) esNil)))))) [some (.s ns), some (.d (.int j)), some (.r T.length), some (.d (.int w)), some (.d (.int n)), some (.d (.list L)), x6, x7] T3) (fun wk S1 => forGo wk.own (gVar 7) (wrB tp) wk.ds [some (.s ns), some (.d (.int j)), some (.r T.length), some (.d (.int w)), some (.d (.int n)), some (.d (.list L)), x6, x7] S1) = _
    rw [hwk]
    exact eF)]
  simp [e4]
theorem take6 {tp : Nat → Addr} {S : Sto} (t : Tb tp S) : S.take 6 = [.tab (lamQ (Str.ofString "_law_bad_width")) (tp 0), .tab (lamQ (Str.ofString "_law_bad_size")) (tp 1), .tab (lamQ (Str.ofString "_law_word_right")) (tp 2), .tab (lamQ (Str.ofString "_law_bad_word")) (tp 3), .tab (lamQ (Str.ofString "_law_errors_right")) (tp 4), .tab (lamQ (Str.ofString "_law_long_right")) (tp 5)] := by
  have h0 := t.t0
  have h1 := t.t1
  have h2 := t.t2
  have h3 := t.t3
  have h4 := t.t4
  have h5 := t.t5
  match S, h0, h1, h2, h3, h4, h5 with
  | a :: b :: c :: d :: e :: f :: r, h0, h1, h2, h3, h4, h5 =>
    simp at h0 h1 h2 h3 h4 h5
    simp [h0, h1, h2, h3, h4, h5]
theorem law_holds' (tp : Nat → Addr) (ns : List Int) (S : Sto) (hl : S.length = 6) (t : Tb tp S) : f_law tp [.s ns] S = some (.ok (.d (.bool true)) [.tab (lamQ (Str.ofString "_law_bad_width")) (tp 0), .tab (lamQ (Str.ofString "_law_bad_size")) (tp 1), .tab (lamQ (Str.ofString "_law_word_right")) (tp 2), .tab (lamQ (Str.ofString "_law_bad_word")) (tp 3), .tab (lamQ (Str.ofString "_law_errors_right")) (tp 4), .tab (lamQ (Str.ofString "_law_long_right")) (tp 5)]) := by
  obtain ⟨σ', S', e, tS, y1, y2, y3, y4, y5, y6, y7, rfl⟩ := forGo_inv (g := gVar 1) (body := turn tp) (fun j σ T => Tb tp T ∧ ∃ y1 y2 y3 y4 y5 y6 y7 : Option SV, σ = [some (.s ns), y1, y2, y3, y4, y5, y6, y7]) (upTo 0 (max 1 (min 8 (ns.length : Int))).toNat) 0 (by
    rintro j d σ T hd ⟨hT, y1, y2, y3, y4, y5, y6, y7, rfl⟩
    obtain ⟨hj, rfl⟩ := upTo_get hd
    rw [show (0 : Int) + (j : Int) = j by omega]
    obtain ⟨z2, z3, z4, z5, z6, z7, T', hT', e⟩ := law_turn (tp := tp) (ns := ns) (j := j) (x2 := y2) (x3 := y3) (x4 := y4) (x5 := y5) (x6 := y6) (x7 := y7) (T := T) hT
    exact ⟨_, rfl, _, _, e, hT', _, _, _, _, _, _, _, rfl⟩) [some (.s ns), none, none, none, none, none, none, none] S ⟨t, _, _, _, _, _, _, _, rfl⟩
  have hm : ∀ L : Int, (if 1 < if L < 8 then L else 8 then if L < 8 then L else 8 else 1) = max 1 (min 8 L) := by
    intro L
    (repeat' split) <;> omega
  have h62 : small62 (max 1 (min 8 (ns.length : Int))) := by unfold small62; omega
  have hb := long_right tS
  have hr : m_law tp [some (.s ns), none, none, none, none, none, none, none] S = some (.rt (.d (.bool true)) S') := by
    unfold m_law
    rw [seq_nx (σ' := [some (.s ns), y1, y2, y3, y4, y5, y6, y7]) (S' := S') (by
      show Sm.bnd (wRng1 (eCa pMax (esCons (eLit (.int 1)) (esCons (eCa pMin (esCons (eLit (.int 8)) (esCons (eCa pLen (esCons (eVar 0) esNil)) esNil))) esNil))) [some (.s ns), none, none, none, none, none, none, none] S) (fun wk S1 => forGo wk.own (gVar 1) (turn tp) wk.ds [some (.s ns), none, none, none, none, none, none, none] S1) = _
      rw [show wRng1 (eCa pMax (esCons (eLit (.int 1)) (esCons (eCa pMin (esCons (eLit (.int 8)) (esCons (eCa pLen (esCons (eVar 0) esNil)) esNil))) esNil))) [some (.s ns), none, none, none, none, none, none, none] S = some (.ok ⟨upTo 0 (max 1 (min 8 (ns.length : Int))).toNat, none⟩ S) by
        simp [hm, h62]]
      exact e)]
    simp [hb]
  simp [f_law, hr, hl, take6 tS]
theorem law_holds (tp : Nat → Addr) (ns : List Int) (hl : ns.length ≤ 63) : f_law tp [.s ns] (tabS [(lamQ (Str.ofString "_law_bad_width"), 0, tp 0), (lamQ (Str.ofString "_law_bad_size"), 0, tp 1), (lamQ (Str.ofString "_law_word_right"), 0, tp 2), (lamQ (Str.ofString "_law_bad_word"), 0, tp 3), (lamQ (Str.ofString "_law_errors_right"), 0, tp 4), (lamQ (Str.ofString "_law_long_right"), 0, tp 5)]) = some (.ok (.d (.bool true)) (tabS [(lamQ (Str.ofString "_law_bad_width"), 0, tp 0), (lamQ (Str.ofString "_law_bad_size"), 0, tp 1), (lamQ (Str.ofString "_law_word_right"), 0, tp 2), (lamQ (Str.ofString "_law_bad_word"), 0, tp 3), (lamQ (Str.ofString "_law_errors_right"), 0, tp 4), (lamQ (Str.ofString "_law_long_right"), 0, tp 5)])) :=
  law_holds' tp ns _ rfl ⟨rfl, rfl, rfl, rfl, rfl, rfl⟩
end T
set_option maxRecDepth 100000
set_option maxHeartbeats 4000000
namespace T
open PySem PySem.Spec PyProof.Rows L2 Z
abbrev sti_InvalidNumber : Stmt := clsItem (topS 5) 0
theorem all_mk {P q : Program} {w : World} {K : PySem.W.Frag} {h : Heap} {mg : Str → Option Value} {t_MAX_WIDTH : Tok} {t_MAX_SIZE : Tok} {C_WordsError : Addr} {C_InvalidWidth : Addr} {C_InvalidVector : Addr} {C_InvalidBasis : Addr} {C_InvalidNumber : Addr} {fI_InvalidNumber : Addr} {odI_InvalidNumber anI_InvalidNumber : Option Addr} {slI_InvalidNumber : Array (Option Value)} {ocI_InvalidNumber kVI_InvalidNumber dcI_InvalidNumber pmI_InvalidNumber cdI_InvalidNumber ctI_InvalidNumber : Value} {fa0 : Addr} {od0 an0 : Option Addr} {sl0 : Array (Option Value)} {oc0 kV0 dc0 pm0 ct0 : Value} {cd0 : Value} {fa1 : Addr} {od1 an1 : Option Addr} {sl1 : Array (Option Value)} {oc1 kV1 dc1 pm1 ct1 : Value} {cd1 : Value} {fa2 : Addr} {od2 an2 : Option Addr} {sl2 : Array (Option Value)} {oc2 kV2 dc2 pm2 ct2 : Value} {cd2 : Value} {fa3 : Addr} {od3 an3 : Option Addr} {sl3 : Array (Option Value)} {oc3 kV3 dc3 pm3 ct3 : Value} {cd3 : Value} {fa4 : Addr} {od4 an4 : Option Addr} {sl4 : Array (Option Value)} {oc4 kV4 dc4 pm4 ct4 : Value} {cd4 : Value} {fa5 : Addr} {od5 an5 : Option Addr} {sl5 : Array (Option Value)} {oc5 kV5 dc5 pm5 ct5 : Value} {cd5 : Value} {fa6 : Addr} {od6 an6 : Option Addr} {sl6 : Array (Option Value)} {oc6 kV6 dc6 pm6 ct6 : Value} {cd6 : Value} {fa7 : Addr} {od7 an7 : Option Addr} {sl7 : Array (Option Value)} {oc7 kV7 dc7 pm7 ct7 : Value} {cd7 : Value} {fa8 : Addr} {od8 an8 : Option Addr} {sl8 : Array (Option Value)} {oc8 kV8 dc8 pm8 ct8 : Value} {cd8 : Value} {fa9 : Addr} {od9 an9 : Option Addr} {sl9 : Array (Option Value)} {oc9 kV9 dc9 pm9 ct9 : Value} {cd9 : Value} {fa10 : Addr} {od10 an10 : Option Addr} {sl10 : Array (Option Value)} {oc10 kV10 dc10 pm10 ct10 : Value} {cd10 : Value} {fa11 : Addr} {od11 an11 : Option Addr} {sl11 : Array (Option Value)} {oc11 kV11 dc11 pm11 ct11 : Value} {cd11 : Value} {fa12 : Addr} {od12 an12 : Option Addr} {sl12 : Array (Option Value)} {oc12 kV12 dc12 pm12 ct12 : Value} {cd12 : Value} {fa13 : Addr} {od13 an13 : Option Addr} {sl13 : Array (Option Value)} {oc13 kV13 dc13 pm13 ct13 : Value} {cd13 : Value} {fa14 : Addr} {od14 an14 : Option Addr} {sl14 : Array (Option Value)} {oc14 kV14 dc14 pm14 ct14 : Value} {cd14 : Value} {fa15 : Addr} {od15 an15 : Option Addr} {sl15 : Array (Option Value)} {oc15 kV15 dc15 pm15 ct15 : Value} {cd15 : Value} {fa16 : Addr} {od16 an16 : Option Addr} {sl16 : Array (Option Value)} {oc16 kV16 dc16 pm16 ct16 : Value} {cd16 : Value} {fa17 : Addr} {od17 an17 : Option Addr} {sl17 : Array (Option Value)} {oc17 kV17 dc17 pm17 ct17 : Value} {cd17 : Value} {fa18 : Addr} {od18 an18 : Option Addr} {sl18 : Array (Option Value)} {oc18 kV18 dc18 pm18 ct18 : Value} {cd18 : Value} {fa19 : Addr} {od19 an19 : Option Addr} {sl19 : Array (Option Value)} {oc19 kV19 dc19 pm19 ct19 : Value} {cd19 : Value} {fa20 : Addr} {od20 an20 : Option Addr} {sl20 : Array (Option Value)} {oc20 kV20 dc20 pm20 ct20 : Value} {cd20 : Value} {fa21 : Addr} {od21 an21 : Option Addr} {sl21 : Array (Option Value)} {oc21 kV21 dc21 pm21 ct21 : Value} {cd21 : Value} {fa22 : Addr} {od22 an22 : Option Addr} {sl22 : Array (Option Value)} {oc22 kV22 dc22 pm22 ct22 : Value} {cd22 : Value} {fa23 : Addr} {od23 an23 : Option Addr} {sl23 : Array (Option Value)} {oc23 kV23 dc23 pm23 ct23 : Value} {cd23 : Value} {fa24 : Addr} {od24 an24 : Option Addr} {sl24 : Array (Option Value)} {oc24 kV24 dc24 pm24 ct24 : Value} {cd24 : Value} {fa25 : Addr} {od25 an25 : Option Addr} {sl25 : Array (Option Value)} {oc25 kV25 dc25 pm25 ct25 : Value} {cd25 : Value} {fa26 : Addr} {od26 an26 : Option Addr} {sl26 : Array (Option Value)} {oc26 kV26 dc26 pm26 ct26 : Value} {cd26 : Value} {fa27 : Addr} {od27 an27 : Option Addr} {sl27 : Array (Option Value)} {oc27 kV27 dc27 pm27 ct27 : Value} {cd27 : Value} {fa28 : Addr} {od28 an28 : Option Addr} {sl28 : Array (Option Value)} {oc28 kV28 dc28 pm28 ct28 : Value} {cd28 : Value} {fa29 : Addr} {od29 an29 : Option Addr} {sl29 : Array (Option Value)} {oc29 kV29 dc29 pm29 ct29 : Value} {cd29 : Value} {fa30 : Addr} {od30 an30 : Option Addr} {sl30 : Array (Option Value)} {oc30 kV30 dc30 pm30 ct30 : Value} {cd30 : Value} {fa31 : Addr} {od31 an31 : Option Addr} {sl31 : Array (Option Value)} {oc31 kV31 dc31 pm31 ct31 : Value} {cd31 : Value} {fa32 : Addr} {od32 an32 : Option Addr} {sl32 : Array (Option Value)} {oc32 kV32 dc32 pm32 ct32 : Value} {cd32 : Value} {fa33 : Addr} {od33 an33 : Option Addr} {sl33 : Array (Option Value)} {oc33 kV33 dc33 pm33 ct33 : Value} {cc33 pp33 : Addr} {oq33 : Value} {dq33 : Option Addr} {vq33 : Array Value} {sq33 : Array (Option Value)} {fa34 : Addr} {od34 an34 : Option Addr} {sl34 : Array (Option Value)} {oc34 kV34 dc34 pm34 ct34 : Value} {cc34 pp34 : Addr} {oq34 : Value} {dq34 : Option Addr} {vq34 : Array Value} {sq34 : Array (Option Value)} {fa35 : Addr} {od35 an35 : Option Addr} {sl35 : Array (Option Value)} {oc35 kV35 dc35 pm35 ct35 : Value} {cd35 : Value} {fa36 : Addr} {od36 an36 : Option Addr} {sl36 : Array (Option Value)} {oc36 kV36 dc36 pm36 ct36 : Value} {cd36 : Value} {fa37 : Addr} {od37 an37 : Option Addr} {sl37 : Array (Option Value)} {oc37 kV37 dc37 pm37 ct37 : Value} {cc37 pp37 : Addr} {oq37 : Value} {dq37 : Option Addr} {vq37 : Array Value} {sq37 : Array (Option Value)} {fa38 : Addr} {od38 an38 : Option Addr} {sl38 : Array (Option Value)} {oc38 kV38 dc38 pm38 ct38 : Value} {cc38 pp38 : Addr} {oq38 : Value} {dq38 : Option Addr} {vq38 : Array Value} {sq38 : Array (Option Value)} {fa39 : Addr} {od39 an39 : Option Addr} {sl39 : Array (Option Value)} {oc39 kV39 dc39 pm39 ct39 : Value} {cd39 : Value} {fa40 : Addr} {od40 an40 : Option Addr} {sl40 : Array (Option Value)} {oc40 kV40 dc40 pm40 ct40 : Value} {cd40 : Value} {fa41 : Addr} {od41 an41 : Option Addr} {sl41 : Array (Option Value)} {oc41 kV41 dc41 pm41 ct41 : Value} {cc41 pp41 : Addr} {oq41 : Value} {dq41 : Option Addr} {vq41 : Array Value} {sq41 : Array (Option Value)} {fa42 : Addr} {od42 an42 : Option Addr} {sl42 : Array (Option Value)} {oc42 kV42 dc42 pm42 ct42 : Value} {cc42 pp42 : Addr} {oq42 : Value} {dq42 : Option Addr} {vq42 : Array Value} {sq42 : Array (Option Value)} {fa43 : Addr} {od43 an43 : Option Addr} {sl43 : Array (Option Value)} {oc43 kV43 dc43 pm43 ct43 : Value} {cd43 : Value} (KX : K.In h) (G : h.Ns mainGlobals mg) (TO : TabsOf q mg h)
    (g_MAX_WIDTH : PySem.W.nsIn K mainGlobals (Str.ofString "MAX_WIDTH") = some (some (.int 16 t_MAX_WIDTH)))
    (g_MAX_SIZE : PySem.W.nsIn K mainGlobals (Str.ofString "MAX_SIZE") = some (some (.int 40 t_MAX_SIZE)))
    (z_len : PySem.W.nsIn K mainGlobals "len" = some none)
    (z_range : PySem.W.nsIn K mainGlobals "range" = some none)
    (z_max : PySem.W.nsIn K mainGlobals "max" = some none)
    (z_min : PySem.W.nsIn K mainGlobals "min" = some none)
    (z_abs : PySem.W.nsIn K mainGlobals "abs" = some none)
    (z_int : PySem.W.nsIn K mainGlobals "int" = some none)
    (z_bool : PySem.W.nsIn K mainGlobals "bool" = some none)
    (z_str : PySem.W.nsIn K mainGlobals "str" = some none)
    (z_tuple : PySem.W.nsIn K mainGlobals "tuple" = some none)
    (z_list : PySem.W.nsIn K mainGlobals "list" = some none)
    (z_dict : PySem.W.nsIn K mainGlobals "dict" = some none)
    (z_sum : PySem.W.nsIn K mainGlobals "sum" = some none)
    (z_all : PySem.W.nsIn K mainGlobals "all" = some none)
    (z_any : PySem.W.nsIn K mainGlobals "any" = some none)
    (z_repr : PySem.W.nsIn K mainGlobals "repr" = some none)
    (z_isinstance : PySem.W.nsIn K mainGlobals "isinstance" = some none)
    (z_zip : PySem.W.nsIn K mainGlobals "zip" = some none)
    (z_enumerate : PySem.W.nsIn K mainGlobals "enumerate" = some none)
    (z_IndexError : PySem.W.nsIn K mainGlobals (Str.ofString "IndexError") = some none)
    (kg_n : PySem.W.specialIn K (.builtin "object.__class__") "__get__" = some (some (.builtin "getset_descriptor.__get__")))
    (kg_t : PySem.W.takesIn K (.builtin "object.__class__") = some true)
    (ns_WordsError : PySem.W.nsIn K mainGlobals (Str.ofString "WordsError") = some (some (.ref C_WordsError)))
    (kC_WordsError : PySem.W.keepIn K (.ref C_WordsError) = true)
    (cl_WordsError : PySem.W.isClsIn K C_WordsError = true)
    (ty_WordsError : PySem.W.typeIn K (.ref C_WordsError) = some (.type "type"))
    (ex_WordsError : PySem.W.subIn K (.ref C_WordsError) (.type "BaseException") = some true)
    (ss_WordsError : PySem.W.subIn K (.ref C_WordsError) (.ref C_WordsError) = some true)
    (ga_WordsError : PySem.W.findIn K (.ref C_WordsError) "__getattribute__" = some (some (.builtin "BaseException.__getattribute__")))
    (gg_WordsError : PySem.W.findIn K (.ref C_WordsError) "__getattr__" = some none)
    (hd_WordsError : PySem.W.hasDictIn K C_WordsError = true)
    (ha_WordsError : PySem.W.findIn K (.ref C_WordsError) "__class__" = some (some (.builtin "object.__class__")))
    (hm_WordsError : PySem.W.mroIn K C_WordsError (.type "object") = some true)
    (ns_InvalidWidth : PySem.W.nsIn K mainGlobals (Str.ofString "InvalidWidth") = some (some (.ref C_InvalidWidth)))
    (kC_InvalidWidth : PySem.W.keepIn K (.ref C_InvalidWidth) = true)
    (cl_InvalidWidth : PySem.W.isClsIn K C_InvalidWidth = true)
    (ty_InvalidWidth : PySem.W.typeIn K (.ref C_InvalidWidth) = some (.type "type"))
    (ex_InvalidWidth : PySem.W.subIn K (.ref C_InvalidWidth) (.type "BaseException") = some true)
    (ss_InvalidWidth : PySem.W.subIn K (.ref C_InvalidWidth) (.ref C_InvalidWidth) = some true)
    (ga_InvalidWidth : PySem.W.findIn K (.ref C_InvalidWidth) "__getattribute__" = some (some (.builtin "BaseException.__getattribute__")))
    (gg_InvalidWidth : PySem.W.findIn K (.ref C_InvalidWidth) "__getattr__" = some none)
    (hd_InvalidWidth : PySem.W.hasDictIn K C_InvalidWidth = true)
    (ha_InvalidWidth : PySem.W.findIn K (.ref C_InvalidWidth) "__class__" = some (some (.builtin "object.__class__")))
    (hm_InvalidWidth : PySem.W.mroIn K C_InvalidWidth (.type "object") = some true)
    (ns_InvalidVector : PySem.W.nsIn K mainGlobals (Str.ofString "InvalidVector") = some (some (.ref C_InvalidVector)))
    (kC_InvalidVector : PySem.W.keepIn K (.ref C_InvalidVector) = true)
    (cl_InvalidVector : PySem.W.isClsIn K C_InvalidVector = true)
    (ty_InvalidVector : PySem.W.typeIn K (.ref C_InvalidVector) = some (.type "type"))
    (ex_InvalidVector : PySem.W.subIn K (.ref C_InvalidVector) (.type "BaseException") = some true)
    (ss_InvalidVector : PySem.W.subIn K (.ref C_InvalidVector) (.ref C_InvalidVector) = some true)
    (ga_InvalidVector : PySem.W.findIn K (.ref C_InvalidVector) "__getattribute__" = some (some (.builtin "BaseException.__getattribute__")))
    (gg_InvalidVector : PySem.W.findIn K (.ref C_InvalidVector) "__getattr__" = some none)
    (hd_InvalidVector : PySem.W.hasDictIn K C_InvalidVector = true)
    (ha_InvalidVector : PySem.W.findIn K (.ref C_InvalidVector) "__class__" = some (some (.builtin "object.__class__")))
    (hm_InvalidVector : PySem.W.mroIn K C_InvalidVector (.type "object") = some true)
    (ns_InvalidBasis : PySem.W.nsIn K mainGlobals (Str.ofString "InvalidBasis") = some (some (.ref C_InvalidBasis)))
    (kC_InvalidBasis : PySem.W.keepIn K (.ref C_InvalidBasis) = true)
    (cl_InvalidBasis : PySem.W.isClsIn K C_InvalidBasis = true)
    (ty_InvalidBasis : PySem.W.typeIn K (.ref C_InvalidBasis) = some (.type "type"))
    (ex_InvalidBasis : PySem.W.subIn K (.ref C_InvalidBasis) (.type "BaseException") = some true)
    (ss_InvalidBasis : PySem.W.subIn K (.ref C_InvalidBasis) (.ref C_InvalidBasis) = some true)
    (ga_InvalidBasis : PySem.W.findIn K (.ref C_InvalidBasis) "__getattribute__" = some (some (.builtin "BaseException.__getattribute__")))
    (gg_InvalidBasis : PySem.W.findIn K (.ref C_InvalidBasis) "__getattr__" = some none)
    (hd_InvalidBasis : PySem.W.hasDictIn K C_InvalidBasis = true)
    (ha_InvalidBasis : PySem.W.findIn K (.ref C_InvalidBasis) "__class__" = some (some (.builtin "object.__class__")))
    (hm_InvalidBasis : PySem.W.mroIn K C_InvalidBasis (.type "object") = some true)
    (ns_InvalidNumber : PySem.W.nsIn K mainGlobals (Str.ofString "InvalidNumber") = some (some (.ref C_InvalidNumber)))
    (kC_InvalidNumber : PySem.W.keepIn K (.ref C_InvalidNumber) = true)
    (cl_InvalidNumber : PySem.W.isClsIn K C_InvalidNumber = true)
    (ty_InvalidNumber : PySem.W.typeIn K (.ref C_InvalidNumber) = some (.type "type"))
    (ex_InvalidNumber : PySem.W.subIn K (.ref C_InvalidNumber) (.type "BaseException") = some true)
    (ss_InvalidNumber : PySem.W.subIn K (.ref C_InvalidNumber) (.ref C_InvalidNumber) = some true)
    (ga_InvalidNumber : PySem.W.findIn K (.ref C_InvalidNumber) "__getattribute__" = some (some (.builtin "BaseException.__getattribute__")))
    (gg_InvalidNumber : PySem.W.findIn K (.ref C_InvalidNumber) "__getattr__" = some none)
    (hd_InvalidNumber : PySem.W.hasDictIn K C_InvalidNumber = true)
    (ha_InvalidNumber : PySem.W.findIn K (.ref C_InvalidNumber) "__class__" = some (some (.builtin "object.__class__")))
    (hm_InvalidNumber : PySem.W.mroIn K C_InvalidNumber (.type "object") = some true)
    (sb_InvalidWidth_InvalidBasis : PySem.W.subIn K (.ref C_InvalidWidth) (.ref C_InvalidBasis) = some false)
    (sb_InvalidVector_InvalidBasis : PySem.W.subIn K (.ref C_InvalidVector) (.ref C_InvalidBasis) = some false)
    (sb_InvalidNumber_InvalidBasis : PySem.W.subIn K (.ref C_InvalidNumber) (.ref C_InvalidBasis) = some false)
    (sb_InvalidWidth_InvalidNumber : PySem.W.subIn K (.ref C_InvalidWidth) (.ref C_InvalidNumber) = some false)
    (sb_InvalidVector_InvalidNumber : PySem.W.subIn K (.ref C_InvalidVector) (.ref C_InvalidNumber) = some false)
    (sb_InvalidNumber_InvalidNumber : PySem.W.subIn K (.ref C_InvalidNumber) (.ref C_InvalidNumber) = some true)
    (sb_InvalidWidth_InvalidVector : PySem.W.subIn K (.ref C_InvalidWidth) (.ref C_InvalidVector) = some false)
    (sb_InvalidVector_InvalidVector : PySem.W.subIn K (.ref C_InvalidVector) (.ref C_InvalidVector) = some true)
    (sb_InvalidNumber_InvalidVector : PySem.W.subIn K (.ref C_InvalidNumber) (.ref C_InvalidVector) = some false)
    (sb_InvalidWidth_InvalidWidth : PySem.W.subIn K (.ref C_InvalidWidth) (.ref C_InvalidWidth) = some true)
    (sb_InvalidVector_InvalidWidth : PySem.W.subIn K (.ref C_InvalidVector) (.ref C_InvalidWidth) = some false)
    (sb_InvalidNumber_InvalidWidth : PySem.W.subIn K (.ref C_InvalidNumber) (.ref C_InvalidWidth) = some false)
    (sb_InvalidWidth_WordsError : PySem.W.subIn K (.ref C_InvalidWidth) (.ref C_WordsError) = some true)
    (sb_InvalidVector_WordsError : PySem.W.subIn K (.ref C_InvalidVector) (.ref C_WordsError) = some true)
    (sb_InvalidNumber_WordsError : PySem.W.subIn K (.ref C_InvalidNumber) (.ref C_WordsError) = some false)
    (xc_InvalidWidth : PySem.W.excIn K C_InvalidWidth [.type "ValueError", .type "Exception", .type "BaseException", .type "object"] "ValueError.__new__" = true)
    (xc_InvalidVector : PySem.W.excIn K C_InvalidVector [.type "ValueError", .type "Exception", .type "BaseException", .type "object"] "ValueError.__new__" = true)
    (md_InvalidNumber : PySem.W.excInitIn K C_InvalidNumber [.type "IndexError", .type "LookupError", .type "Exception", .type "BaseException", .type "object"] "IndexError.__new__" = true)
    (ov_InvalidNumber : PySem.W.excOver K C_InvalidNumber [.type "IndexError", .type "LookupError", .type "Exception", .type "BaseException", .type "object"] = true)
    (sa_InvalidNumber : PySem.W.findIn K (.ref C_InvalidNumber) "__setattr__" = some (some (.builtin "object.__setattr__")))
    (no_InvalidNumber : PySem.W.findIn K (.ref C_InvalidNumber) (Str.ofString "value") = some none)
    (vV_InvalidNumber : PySem.W.findCls K (.type "IndexError") (.type "type") "__init__" = some (.val (.builtin "IndexError.__init__")))
    (iC_InvalidNumber : PySem.W.findIn K (.ref C_InvalidNumber) "__init__" = some (some (.ref fI_InvalidNumber)))
    (tI_InvalidNumber : PySem.W.typeIn K (.ref fI_InvalidNumber) = some (.type "function"))
    (lk_InvalidNumber : K.lookup fI_InvalidNumber = some ⟨ocI_InvalidNumber, odI_InvalidNumber, .func (PySem.W.fnOf "__init__" "InvalidNumber.__init__" (defArgs sti_InvalidNumber) (defBody sti_InvalidNumber) (defScope sti_InvalidNumber) .none kVI_InvalidNumber dcI_InvalidNumber pmI_InvalidNumber anI_InvalidNumber cdI_InvalidNumber ctI_InvalidNumber), slI_InvalidNumber⟩)
    (ci_InvalidNumber : PySem.W.codeIn K cdI_InvalidNumber "InvalidNumber.__init__" = true)
    (a0 : PySem.W.nsIn K mainGlobals (Str.ofString "fits_bounds") = some (some (.ref fa0)))
    (l0 : K.lookup fa0 = some ⟨oc0, od0, .func (PySem.W.fnOf (Str.ofString "fits_bounds") (Str.ofString "fits_bounds") (defArgs st_fits_bounds) (defBody st_fits_bounds) (defScope st_fits_bounds) .none kV0 dc0 pm0 an0 cd0 ct0), sl0⟩)
    (c0 : PySem.W.codeIn K cd0 (Str.ofString "fits_bounds") = true)
    (k0 : PySem.W.keepIn K (.ref fa0) = true)
    (a1 : PySem.W.nsIn K mainGlobals (Str.ofString "is_width") = some (some (.ref fa1)))
    (l1 : K.lookup fa1 = some ⟨oc1, od1, .func (PySem.W.fnOf (Str.ofString "is_width") (Str.ofString "is_width") (defArgs st_is_width) (defBody st_is_width) (defScope st_is_width) .none kV1 dc1 pm1 an1 cd1 ct1), sl1⟩)
    (c1 : PySem.W.codeIn K cd1 (Str.ofString "is_width") = true)
    (k1 : PySem.W.keepIn K (.ref fa1) = true)
    (a2 : PySem.W.nsIn K mainGlobals (Str.ofString "need_width") = some (some (.ref fa2)))
    (l2 : K.lookup fa2 = some ⟨oc2, od2, .func (PySem.W.fnOf (Str.ofString "need_width") (Str.ofString "need_width") (defArgs st_need_width) (defBody st_need_width) (defScope st_need_width) .none kV2 dc2 pm2 an2 cd2 ct2), sl2⟩)
    (c2 : PySem.W.codeIn K cd2 (Str.ofString "need_width") = true)
    (k2 : PySem.W.keepIn K (.ref fa2) = true)
    (a3 : PySem.W.nsIn K mainGlobals (Str.ofString "fits_size") = some (some (.ref fa3)))
    (l3 : K.lookup fa3 = some ⟨oc3, od3, .func (PySem.W.fnOf (Str.ofString "fits_size") (Str.ofString "fits_size") (defArgs st_fits_size) (defBody st_fits_size) (defScope st_fits_size) .none kV3 dc3 pm3 an3 cd3 ct3), sl3⟩)
    (c3 : PySem.W.codeIn K cd3 (Str.ofString "fits_size") = true)
    (k3 : PySem.W.keepIn K (.ref fa3) = true)
    (a4 : PySem.W.nsIn K mainGlobals (Str.ofString "need_size") = some (some (.ref fa4)))
    (l4 : K.lookup fa4 = some ⟨oc4, od4, .func (PySem.W.fnOf (Str.ofString "need_size") (Str.ofString "need_size") (defArgs st_need_size) (defBody st_need_size) (defScope st_need_size) .none kV4 dc4 pm4 an4 cd4 ct4), sl4⟩)
    (c4 : PySem.W.codeIn K cd4 (Str.ofString "need_size") = true)
    (k4 : PySem.W.keepIn K (.ref fa4) = true)
    (a5 : PySem.W.nsIn K mainGlobals (Str.ofString "fits_word") = some (some (.ref fa5)))
    (l5 : K.lookup fa5 = some ⟨oc5, od5, .func (PySem.W.fnOf (Str.ofString "fits_word") (Str.ofString "fits_word") (defArgs st_fits_word) (defBody st_fits_word) (defScope st_fits_word) .none kV5 dc5 pm5 an5 cd5 ct5), sl5⟩)
    (c5 : PySem.W.codeIn K cd5 (Str.ofString "fits_word") = true)
    (k5 : PySem.W.keepIn K (.ref fa5) = true)
    (a6 : PySem.W.nsIn K mainGlobals (Str.ofString "fits_words") = some (some (.ref fa6)))
    (l6 : K.lookup fa6 = some ⟨oc6, od6, .func (PySem.W.fnOf (Str.ofString "fits_words") (Str.ofString "fits_words") (defArgs st_fits_words) (defBody st_fits_words) (defScope st_fits_words) .none kV6 dc6 pm6 an6 cd6 ct6), sl6⟩)
    (c6 : PySem.W.codeIn K cd6 (Str.ofString "fits_words") = true)
    (k6 : PySem.W.keepIn K (.ref fa6) = true)
    (a7 : PySem.W.nsIn K mainGlobals (Str.ofString "fits_vector") = some (some (.ref fa7)))
    (l7 : K.lookup fa7 = some ⟨oc7, od7, .func (PySem.W.fnOf (Str.ofString "fits_vector") (Str.ofString "fits_vector") (defArgs st_fits_vector) (defBody st_fits_vector) (defScope st_fits_vector) .none kV7 dc7 pm7 an7 cd7 ct7), sl7⟩)
    (c7 : PySem.W.codeIn K cd7 (Str.ofString "fits_vector") = true)
    (k7 : PySem.W.keepIn K (.ref fa7) = true)
    (a8 : PySem.W.nsIn K mainGlobals (Str.ofString "need_vector") = some (some (.ref fa8)))
    (l8 : K.lookup fa8 = some ⟨oc8, od8, .func (PySem.W.fnOf (Str.ofString "need_vector") (Str.ofString "need_vector") (defArgs st_need_vector) (defBody st_need_vector) (defScope st_need_vector) .none kV8 dc8 pm8 an8 cd8 ct8), sl8⟩)
    (c8 : PySem.W.codeIn K cd8 (Str.ofString "need_vector") = true)
    (k8 : PySem.W.keepIn K (.ref fa8) = true)
    (a9 : PySem.W.nsIn K mainGlobals (Str.ofString "need_vectors") = some (some (.ref fa9)))
    (l9 : K.lookup fa9 = some ⟨oc9, od9, .func (PySem.W.fnOf (Str.ofString "need_vectors") (Str.ofString "need_vectors") (defArgs st_need_vectors) (defBody st_need_vectors) (defScope st_need_vectors) .none kV9 dc9 pm9 an9 cd9 ct9), sl9⟩)
    (c9 : PySem.W.codeIn K cd9 (Str.ofString "need_vectors") = true)
    (k9 : PySem.W.keepIn K (.ref fa9) = true)
    (a10 : PySem.W.nsIn K mainGlobals (Str.ofString "added") = some (some (.ref fa10)))
    (l10 : K.lookup fa10 = some ⟨oc10, od10, .func (PySem.W.fnOf (Str.ofString "added") (Str.ofString "added") (defArgs st_added) (defBody st_added) (defScope st_added) .none kV10 dc10 pm10 an10 cd10 ct10), sl10⟩)
    (c10 : PySem.W.codeIn K cd10 (Str.ofString "added") = true)
    (k10 : PySem.W.keepIn K (.ref fa10) = true)
    (a11 : PySem.W.nsIn K mainGlobals (Str.ofString "vector_sum") = some (some (.ref fa11)))
    (l11 : K.lookup fa11 = some ⟨oc11, od11, .func (PySem.W.fnOf (Str.ofString "vector_sum") (Str.ofString "vector_sum") (defArgs st_vector_sum) (defBody st_vector_sum) (defScope st_vector_sum) .none kV11 dc11 pm11 an11 cd11 ct11), sl11⟩)
    (c11 : PySem.W.codeIn K cd11 (Str.ofString "vector_sum") = true)
    (k11 : PySem.W.keepIn K (.ref fa11) = true)
    (a12 : PySem.W.nsIn K mainGlobals (Str.ofString "need_any_vector") = some (some (.ref fa12)))
    (l12 : K.lookup fa12 = some ⟨oc12, od12, .func (PySem.W.fnOf (Str.ofString "need_any_vector") (Str.ofString "need_any_vector") (defArgs st_need_any_vector) (defBody st_need_any_vector) (defScope st_need_any_vector) .none kV12 dc12 pm12 an12 cd12 ct12), sl12⟩)
    (c12 : PySem.W.codeIn K cd12 (Str.ofString "need_any_vector") = true)
    (k12 : PySem.W.keepIn K (.ref fa12) = true)
    (a13 : PySem.W.nsIn K mainGlobals (Str.ofString "need_word") = some (some (.ref fa13)))
    (l13 : K.lookup fa13 = some ⟨oc13, od13, .func (PySem.W.fnOf (Str.ofString "need_word") (Str.ofString "need_word") (defArgs st_need_word) (defBody st_need_word) (defScope st_need_word) .none kV13 dc13 pm13 an13 cd13 ct13), sl13⟩)
    (c13 : PySem.W.codeIn K cd13 (Str.ofString "need_word") = true)
    (k13 : PySem.W.keepIn K (.ref fa13) = true)
    (a14 : PySem.W.nsIn K mainGlobals (Str.ofString "multiplied") = some (some (.ref fa14)))
    (l14 : K.lookup fa14 = some ⟨oc14, od14, .func (PySem.W.fnOf (Str.ofString "multiplied") (Str.ofString "multiplied") (defArgs st_multiplied) (defBody st_multiplied) (defScope st_multiplied) .none kV14 dc14 pm14 an14 cd14 ct14), sl14⟩)
    (c14 : PySem.W.codeIn K cd14 (Str.ofString "multiplied") = true)
    (k14 : PySem.W.keepIn K (.ref fa14) = true)
    (a15 : PySem.W.nsIn K mainGlobals (Str.ofString "vector_multiple") = some (some (.ref fa15)))
    (l15 : K.lookup fa15 = some ⟨oc15, od15, .func (PySem.W.fnOf (Str.ofString "vector_multiple") (Str.ofString "vector_multiple") (defArgs st_vector_multiple) (defBody st_vector_multiple) (defScope st_vector_multiple) .none kV15 dc15 pm15 an15 cd15 ct15), sl15⟩)
    (c15 : PySem.W.codeIn K cd15 (Str.ofString "vector_multiple") = true)
    (k15 : PySem.W.keepIn K (.ref fa15) = true)
    (a16 : PySem.W.nsIn K mainGlobals (Str.ofString "dot") = some (some (.ref fa16)))
    (l16 : K.lookup fa16 = some ⟨oc16, od16, .func (PySem.W.fnOf (Str.ofString "dot") (Str.ofString "dot") (defArgs st_dot) (defBody st_dot) (defScope st_dot) .none kV16 dc16 pm16 an16 cd16 ct16), sl16⟩)
    (c16 : PySem.W.codeIn K cd16 (Str.ofString "dot") = true)
    (k16 : PySem.W.keepIn K (.ref fa16) = true)
    (a17 : PySem.W.nsIn K mainGlobals (Str.ofString "dot_product") = some (some (.ref fa17)))
    (l17 : K.lookup fa17 = some ⟨oc17, od17, .func (PySem.W.fnOf (Str.ofString "dot_product") (Str.ofString "dot_product") (defArgs st_dot_product) (defBody st_dot_product) (defScope st_dot_product) .none kV17 dc17 pm17 an17 cd17 ct17), sl17⟩)
    (c17 : PySem.W.codeIn K cd17 (Str.ofString "dot_product") = true)
    (k17 : PySem.W.keepIn K (.ref fa17) = true)
    (a18 : PySem.W.nsIn K mainGlobals (Str.ofString "level") = some (some (.ref fa18)))
    (l18 : K.lookup fa18 = some ⟨oc18, od18, .func (PySem.W.fnOf (Str.ofString "level") (Str.ofString "level") (defArgs st_level) (defBody st_level) (defScope st_level) .none kV18 dc18 pm18 an18 cd18 ct18), sl18⟩)
    (c18 : PySem.W.codeIn K cd18 (Str.ofString "level") = true)
    (k18 : PySem.W.keepIn K (.ref fa18) = true)
    (a19 : PySem.W.nsIn K mainGlobals (Str.ofString "word_level") = some (some (.ref fa19)))
    (l19 : K.lookup fa19 = some ⟨oc19, od19, .func (PySem.W.fnOf (Str.ofString "word_level") (Str.ofString "word_level") (defArgs st_word_level) (defBody st_word_level) (defScope st_word_level) .none kV19 dc19 pm19 an19 cd19 ct19), sl19⟩)
    (c19 : PySem.W.codeIn K cd19 (Str.ofString "word_level") = true)
    (k19 : PySem.W.keepIn K (.ref fa19) = true)
    (a20 : PySem.W.nsIn K mainGlobals (Str.ofString "inverse") = some (some (.ref fa20)))
    (l20 : K.lookup fa20 = some ⟨oc20, od20, .func (PySem.W.fnOf (Str.ofString "inverse") (Str.ofString "inverse") (defArgs st_inverse) (defBody st_inverse) (defScope st_inverse) .none kV20 dc20 pm20 an20 cd20 ct20), sl20⟩)
    (c20 : PySem.W.codeIn K cd20 (Str.ofString "inverse") = true)
    (k20 : PySem.W.keepIn K (.ref fa20) = true)
    (a21 : PySem.W.nsIn K mainGlobals (Str.ofString "word_inverse") = some (some (.ref fa21)))
    (l21 : K.lookup fa21 = some ⟨oc21, od21, .func (PySem.W.fnOf (Str.ofString "word_inverse") (Str.ofString "word_inverse") (defArgs st_word_inverse) (defBody st_word_inverse) (defScope st_word_inverse) .none kV21 dc21 pm21 an21 cd21 ct21), sl21⟩)
    (c21 : PySem.W.codeIn K cd21 (Str.ofString "word_inverse") = true)
    (k21 : PySem.W.keepIn K (.ref fa21) = true)
    (a22 : PySem.W.nsIn K mainGlobals (Str.ofString "_law_stream") = some (some (.ref fa22)))
    (l22 : K.lookup fa22 = some ⟨oc22, od22, .func (PySem.W.fnOf (Str.ofString "_law_stream") (Str.ofString "_law_stream") (defArgs st__law_stream) (defBody st__law_stream) (defScope st__law_stream) .none kV22 dc22 pm22 an22 cd22 ct22), sl22⟩)
    (c22 : PySem.W.codeIn K cd22 (Str.ofString "_law_stream") = true)
    (k22 : PySem.W.keepIn K (.ref fa22) = true)
    (a23 : PySem.W.nsIn K mainGlobals (Str.ofString "_law_draw") = some (some (.ref fa23)))
    (l23 : K.lookup fa23 = some ⟨oc23, od23, .func (PySem.W.fnOf (Str.ofString "_law_draw") (Str.ofString "_law_draw") (defArgs st__law_draw) (defBody st__law_draw) (defScope st__law_draw) .none kV23 dc23 pm23 an23 cd23 ct23), sl23⟩)
    (c23 : PySem.W.codeIn K cd23 (Str.ofString "_law_draw") = true)
    (k23 : PySem.W.keepIn K (.ref fa23) = true)
    (a24 : PySem.W.nsIn K mainGlobals (Str.ofString "_law_pick") = some (some (.ref fa24)))
    (l24 : K.lookup fa24 = some ⟨oc24, od24, .func (PySem.W.fnOf (Str.ofString "_law_pick") (Str.ofString "_law_pick") (defArgs st__law_pick) (defBody st__law_pick) (defScope st__law_pick) .none kV24 dc24 pm24 an24 cd24 ct24), sl24⟩)
    (c24 : PySem.W.codeIn K cd24 (Str.ofString "_law_pick") = true)
    (k24 : PySem.W.keepIn K (.ref fa24) = true)
    (a25 : PySem.W.nsIn K mainGlobals (Str.ofString "_law_row") = some (some (.ref fa25)))
    (l25 : K.lookup fa25 = some ⟨oc25, od25, .func (PySem.W.fnOf (Str.ofString "_law_row") (Str.ofString "_law_row") (defArgs st__law_row) (defBody st__law_row) (defScope st__law_row) .none kV25 dc25 pm25 an25 cd25 ct25), sl25⟩)
    (c25 : PySem.W.codeIn K cd25 (Str.ofString "_law_row") = true)
    (k25 : PySem.W.keepIn K (.ref fa25) = true)
    (a26 : PySem.W.nsIn K mainGlobals (Str.ofString "_law_other") = some (some (.ref fa26)))
    (l26 : K.lookup fa26 = some ⟨oc26, od26, .func (PySem.W.fnOf (Str.ofString "_law_other") (Str.ofString "_law_other") (defArgs st__law_other) (defBody st__law_other) (defScope st__law_other) .none kV26 dc26 pm26 an26 cd26 ct26), sl26⟩)
    (c26 : PySem.W.codeIn K cd26 (Str.ofString "_law_other") = true)
    (k26 : PySem.W.keepIn K (.ref fa26) = true)
    (a27 : PySem.W.nsIn K mainGlobals (Str.ofString "_law_width") = some (some (.ref fa27)))
    (l27 : K.lookup fa27 = some ⟨oc27, od27, .func (PySem.W.fnOf (Str.ofString "_law_width") (Str.ofString "_law_width") (defArgs st__law_width) (defBody st__law_width) (defScope st__law_width) .none kV27 dc27 pm27 an27 cd27 ct27), sl27⟩)
    (c27 : PySem.W.codeIn K cd27 (Str.ofString "_law_width") = true)
    (k27 : PySem.W.keepIn K (.ref fa27) = true)
    (a28 : PySem.W.nsIn K mainGlobals (Str.ofString "_law_size") = some (some (.ref fa28)))
    (l28 : K.lookup fa28 = some ⟨oc28, od28, .func (PySem.W.fnOf (Str.ofString "_law_size") (Str.ofString "_law_size") (defArgs st__law_size) (defBody st__law_size) (defScope st__law_size) .none kV28 dc28 pm28 an28 cd28 ct28), sl28⟩)
    (c28 : PySem.W.codeIn K cd28 (Str.ofString "_law_size") = true)
    (k28 : PySem.W.keepIn K (.ref fa28) = true)
    (a29 : PySem.W.nsIn K mainGlobals (Str.ofString "_law_is_word") = some (some (.ref fa29)))
    (l29 : K.lookup fa29 = some ⟨oc29, od29, .func (PySem.W.fnOf (Str.ofString "_law_is_word") (Str.ofString "_law_is_word") (defArgs st__law_is_word) (defBody st__law_is_word) (defScope st__law_is_word) .none kV29 dc29 pm29 an29 cd29 ct29), sl29⟩)
    (c29 : PySem.W.codeIn K cd29 (Str.ofString "_law_is_word") = true)
    (k29 : PySem.W.keepIn K (.ref fa29) = true)
    (a30 : PySem.W.nsIn K mainGlobals (Str.ofString "_law_is_vector") = some (some (.ref fa30)))
    (l30 : K.lookup fa30 = some ⟨oc30, od30, .func (PySem.W.fnOf (Str.ofString "_law_is_vector") (Str.ofString "_law_is_vector") (defArgs st__law_is_vector) (defBody st__law_is_vector) (defScope st__law_is_vector) .none kV30 dc30 pm30 an30 cd30 ct30), sl30⟩)
    (c30 : PySem.W.codeIn K cd30 (Str.ofString "_law_is_vector") = true)
    (k30 : PySem.W.keepIn K (.ref fa30) = true)
    (a31 : PySem.W.nsIn K mainGlobals (Str.ofString "_law_bent") = some (some (.ref fa31)))
    (l31 : K.lookup fa31 = some ⟨oc31, od31, .func (PySem.W.fnOf (Str.ofString "_law_bent") (Str.ofString "_law_bent") (defArgs st__law_bent) (defBody st__law_bent) (defScope st__law_bent) .none kV31 dc31 pm31 an31 cd31 ct31), sl31⟩)
    (c31 : PySem.W.codeIn K cd31 (Str.ofString "_law_bent") = true)
    (k31 : PySem.W.keepIn K (.ref fa31) = true)
    (a32 : PySem.W.nsIn K mainGlobals (Str.ofString "_law_bad") = some (some (.ref fa32)))
    (l32 : K.lookup fa32 = some ⟨oc32, od32, .func (PySem.W.fnOf (Str.ofString "_law_bad") (Str.ofString "_law_bad") (defArgs st__law_bad) (defBody st__law_bad) (defScope st__law_bad) .none kV32 dc32 pm32 an32 cd32 ct32), sl32⟩)
    (c32 : PySem.W.codeIn K cd32 (Str.ofString "_law_bad") = true)
    (k32 : PySem.W.keepIn K (.ref fa32) = true)
    (a33 : PySem.W.nsIn K mainGlobals (Str.ofString "_law_bad_width") = some (some (.ref fa33)))
    (l33 : K.lookup fa33 = some ⟨oc33, od33, .func (PySem.W.fnOf (Str.ofString "_law_bad_width") (Str.ofString "_law_bad_width") (defArgs st__law_bad_width) (defBody st__law_bad_width) (defScope st__law_bad_width) .none kV33 dc33 pm33 an33 (.ref cc33) ct33), sl33⟩)
    (c33 : PySem.W.codeIn K (.ref cc33) (Str.ofString "_law_bad_width") = true)
    (k33 : PySem.W.keepIn K (.ref fa33) = true)
    (lc33 : K.lookup cc33 = some ⟨oq33, dq33, .fields vq33, sq33⟩)
    (e33 : vq33[11]? = some (.ref pp33))
    (ch33 : PySem.W.codeHdIn K cc33 pp33 = true)
    (no33 : K.lookup pp33 = none)
    (rq33 : ((recsOf q).any fun e => e.name == (Str.ofString "_law_bad_width")) = true)
    (a34 : PySem.W.nsIn K mainGlobals (Str.ofString "_law_bad_size") = some (some (.ref fa34)))
    (l34 : K.lookup fa34 = some ⟨oc34, od34, .func (PySem.W.fnOf (Str.ofString "_law_bad_size") (Str.ofString "_law_bad_size") (defArgs st__law_bad_size) (defBody st__law_bad_size) (defScope st__law_bad_size) .none kV34 dc34 pm34 an34 (.ref cc34) ct34), sl34⟩)
    (c34 : PySem.W.codeIn K (.ref cc34) (Str.ofString "_law_bad_size") = true)
    (k34 : PySem.W.keepIn K (.ref fa34) = true)
    (lc34 : K.lookup cc34 = some ⟨oq34, dq34, .fields vq34, sq34⟩)
    (e34 : vq34[11]? = some (.ref pp34))
    (ch34 : PySem.W.codeHdIn K cc34 pp34 = true)
    (no34 : K.lookup pp34 = none)
    (rq34 : ((recsOf q).any fun e => e.name == (Str.ofString "_law_bad_size")) = true)
    (a35 : PySem.W.nsIn K mainGlobals (Str.ofString "_law_word") = some (some (.ref fa35)))
    (l35 : K.lookup fa35 = some ⟨oc35, od35, .func (PySem.W.fnOf (Str.ofString "_law_word") (Str.ofString "_law_word") (defArgs st__law_word) (defBody st__law_word) (defScope st__law_word) .none kV35 dc35 pm35 an35 cd35 ct35), sl35⟩)
    (c35 : PySem.W.codeIn K cd35 (Str.ofString "_law_word") = true)
    (k35 : PySem.W.keepIn K (.ref fa35) = true)
    (a36 : PySem.W.nsIn K mainGlobals (Str.ofString "_law_refusal") = some (some (.ref fa36)))
    (l36 : K.lookup fa36 = some ⟨oc36, od36, .func (PySem.W.fnOf (Str.ofString "_law_refusal") (Str.ofString "_law_refusal") (defArgs st__law_refusal) (defBody st__law_refusal) (defScope st__law_refusal) .none kV36 dc36 pm36 an36 cd36 ct36), sl36⟩)
    (c36 : PySem.W.codeIn K cd36 (Str.ofString "_law_refusal") = true)
    (k36 : PySem.W.keepIn K (.ref fa36) = true)
    (a37 : PySem.W.nsIn K mainGlobals (Str.ofString "_law_word_right") = some (some (.ref fa37)))
    (l37 : K.lookup fa37 = some ⟨oc37, od37, .func (PySem.W.fnOf (Str.ofString "_law_word_right") (Str.ofString "_law_word_right") (defArgs st__law_word_right) (defBody st__law_word_right) (defScope st__law_word_right) .none kV37 dc37 pm37 an37 (.ref cc37) ct37), sl37⟩)
    (c37 : PySem.W.codeIn K (.ref cc37) (Str.ofString "_law_word_right") = true)
    (k37 : PySem.W.keepIn K (.ref fa37) = true)
    (lc37 : K.lookup cc37 = some ⟨oq37, dq37, .fields vq37, sq37⟩)
    (e37 : vq37[11]? = some (.ref pp37))
    (ch37 : PySem.W.codeHdIn K cc37 pp37 = true)
    (no37 : K.lookup pp37 = none)
    (rq37 : ((recsOf q).any fun e => e.name == (Str.ofString "_law_word_right")) = true)
    (a38 : PySem.W.nsIn K mainGlobals (Str.ofString "_law_bad_word") = some (some (.ref fa38)))
    (l38 : K.lookup fa38 = some ⟨oc38, od38, .func (PySem.W.fnOf (Str.ofString "_law_bad_word") (Str.ofString "_law_bad_word") (defArgs st__law_bad_word) (defBody st__law_bad_word) (defScope st__law_bad_word) .none kV38 dc38 pm38 an38 (.ref cc38) ct38), sl38⟩)
    (c38 : PySem.W.codeIn K (.ref cc38) (Str.ofString "_law_bad_word") = true)
    (k38 : PySem.W.keepIn K (.ref fa38) = true)
    (lc38 : K.lookup cc38 = some ⟨oq38, dq38, .fields vq38, sq38⟩)
    (e38 : vq38[11]? = some (.ref pp38))
    (ch38 : PySem.W.codeHdIn K cc38 pp38 = true)
    (no38 : K.lookup pp38 = none)
    (rq38 : ((recsOf q).any fun e => e.name == (Str.ofString "_law_bad_word")) = true)
    (a39 : PySem.W.nsIn K mainGlobals (Str.ofString "_law_bad_vector") = some (some (.ref fa39)))
    (l39 : K.lookup fa39 = some ⟨oc39, od39, .func (PySem.W.fnOf (Str.ofString "_law_bad_vector") (Str.ofString "_law_bad_vector") (defArgs st__law_bad_vector) (defBody st__law_bad_vector) (defScope st__law_bad_vector) .none kV39 dc39 pm39 an39 cd39 ct39), sl39⟩)
    (c39 : PySem.W.codeIn K cd39 (Str.ofString "_law_bad_vector") = true)
    (k39 : PySem.W.keepIn K (.ref fa39) = true)
    (a40 : PySem.W.nsIn K mainGlobals (Str.ofString "_law_is_any") = some (some (.ref fa40)))
    (l40 : K.lookup fa40 = some ⟨oc40, od40, .func (PySem.W.fnOf (Str.ofString "_law_is_any") (Str.ofString "_law_is_any") (defArgs st__law_is_any) (defBody st__law_is_any) (defScope st__law_is_any) .none kV40 dc40 pm40 an40 cd40 ct40), sl40⟩)
    (c40 : PySem.W.codeIn K cd40 (Str.ofString "_law_is_any") = true)
    (k40 : PySem.W.keepIn K (.ref fa40) = true)
    (a41 : PySem.W.nsIn K mainGlobals (Str.ofString "_law_errors_right") = some (some (.ref fa41)))
    (l41 : K.lookup fa41 = some ⟨oc41, od41, .func (PySem.W.fnOf (Str.ofString "_law_errors_right") (Str.ofString "_law_errors_right") (defArgs st__law_errors_right) (defBody st__law_errors_right) (defScope st__law_errors_right) .none kV41 dc41 pm41 an41 (.ref cc41) ct41), sl41⟩)
    (c41 : PySem.W.codeIn K (.ref cc41) (Str.ofString "_law_errors_right") = true)
    (k41 : PySem.W.keepIn K (.ref fa41) = true)
    (lc41 : K.lookup cc41 = some ⟨oq41, dq41, .fields vq41, sq41⟩)
    (e41 : vq41[11]? = some (.ref pp41))
    (ch41 : PySem.W.codeHdIn K cc41 pp41 = true)
    (no41 : K.lookup pp41 = none)
    (rq41 : ((recsOf q).any fun e => e.name == (Str.ofString "_law_errors_right")) = true)
    (a42 : PySem.W.nsIn K mainGlobals (Str.ofString "_law_long_right") = some (some (.ref fa42)))
    (l42 : K.lookup fa42 = some ⟨oc42, od42, .func (PySem.W.fnOf (Str.ofString "_law_long_right") (Str.ofString "_law_long_right") (defArgs st__law_long_right) (defBody st__law_long_right) (defScope st__law_long_right) .none kV42 dc42 pm42 an42 (.ref cc42) ct42), sl42⟩)
    (c42 : PySem.W.codeIn K (.ref cc42) (Str.ofString "_law_long_right") = true)
    (k42 : PySem.W.keepIn K (.ref fa42) = true)
    (lc42 : K.lookup cc42 = some ⟨oq42, dq42, .fields vq42, sq42⟩)
    (e42 : vq42[11]? = some (.ref pp42))
    (ch42 : PySem.W.codeHdIn K cc42 pp42 = true)
    (no42 : K.lookup pp42 = none)
    (rq42 : ((recsOf q).any fun e => e.name == (Str.ofString "_law_long_right")) = true)
    (a43 : PySem.W.nsIn K mainGlobals (Str.ofString "law") = some (some (.ref fa43)))
    (l43 : K.lookup fa43 = some ⟨oc43, od43, .func (PySem.W.fnOf (Str.ofString "law") (Str.ofString "law") (defArgs st_law) (defBody st_law) (defScope st_law) .none kV43 dc43 pm43 an43 cd43 ct43), sl43⟩)
    (c43 : PySem.W.codeIn K cd43 (Str.ofString "law") = true)
    (k43 : PySem.W.keepIn K (.ref fa43) = true)
    (nd_ : ([pp33, pp34, pp37, pp38, pp41, pp42] : List Addr).Nodup)
    : ∃ (cs : Tbs) (g : Fn), TbsOk K cs h ∧ (∀ ns : List Int, ns.length ≤ 63 → g [.s ns] (tabS cs) = some (.ok (.d (.bool true)) (tabS cs))) ∧ ∀ base : Heap, K.In base → base.Ns mainGlobals mg → (∀ p ∈ cs, LamX.TabB base mg p.2.1 p.2.2) → FnG P w K mg base 15 "law" g := by
  have tt33 := TO.at KX (x := (Str.ofString "_law_bad_width")) rq33 (PySem.W.mg_of KX G a33) l33 rfl rfl ch33
  have tt34 := TO.at KX (x := (Str.ofString "_law_bad_size")) rq34 (PySem.W.mg_of KX G a34) l34 rfl rfl ch34
  have tt37 := TO.at KX (x := (Str.ofString "_law_word_right")) rq37 (PySem.W.mg_of KX G a37) l37 rfl rfl ch37
  have tt38 := TO.at KX (x := (Str.ofString "_law_bad_word")) rq38 (PySem.W.mg_of KX G a38) l38 rfl rfl ch38
  have tt41 := TO.at KX (x := (Str.ofString "_law_errors_right")) rq41 (PySem.W.mg_of KX G a41) l41 rfl rfl ch41
  have tt42 := TO.at KX (x := (Str.ofString "_law_long_right")) rq42 (PySem.W.mg_of KX G a42) l42 rfl rfl ch42
  refine ⟨[(lamQ (Str.ofString "_law_bad_width"), cc33, pp33), (lamQ (Str.ofString "_law_bad_size"), cc34, pp34), (lamQ (Str.ofString "_law_word_right"), cc37, pp37), (lamQ (Str.ofString "_law_bad_word"), cc38, pp38), (lamQ (Str.ofString "_law_errors_right"), cc41, pp41), (lamQ (Str.ofString "_law_long_right"), cc42, pp42)], f_law (fun i => match i with | 0 => pp33 | 1 => pp34 | 2 => pp37 | 3 => pp38 | 4 => pp41 | 5 => pp42 | _ => 0), ⟨(List.forall_mem_cons.mpr ⟨tt33.1, (List.forall_mem_cons.mpr ⟨tt34.1, (List.forall_mem_cons.mpr ⟨tt37.1, (List.forall_mem_cons.mpr ⟨tt38.1, (List.forall_mem_cons.mpr ⟨tt41.1, (List.forall_mem_cons.mpr ⟨tt42.1, (fun _ z => nomatch z)⟩)⟩)⟩)⟩)⟩)⟩), (List.forall_mem_cons.mpr ⟨no33, (List.forall_mem_cons.mpr ⟨no34, (List.forall_mem_cons.mpr ⟨no37, (List.forall_mem_cons.mpr ⟨no38, (List.forall_mem_cons.mpr ⟨no41, (List.forall_mem_cons.mpr ⟨no42, (fun _ z => nomatch z)⟩)⟩)⟩)⟩)⟩)⟩), nd_, (List.forall_mem_cons.mpr ⟨tt33.2, (List.forall_mem_cons.mpr ⟨tt34.2, (List.forall_mem_cons.mpr ⟨tt37.2, (List.forall_mem_cons.mpr ⟨tt38.2, (List.forall_mem_cons.mpr ⟨tt41.2, (List.forall_mem_cons.mpr ⟨tt42.2, (fun _ z => nomatch z)⟩)⟩)⟩)⟩)⟩)⟩)⟩, fun ns hl => law_holds (fun i => match i with | 0 => pp33 | 1 => pp34 | 2 => pp37 | 3 => pp38 | 4 => pp41 | 5 => pp42 | _ => 0) ns hl, fun base _ _ hTB => ?_⟩
  have nb : NB mg := ⟨PySem.W.mg_none_of KX G z_len, PySem.W.mg_none_of KX G z_range, PySem.W.mg_none_of KX G z_max, PySem.W.mg_none_of KX G z_min, PySem.W.mg_none_of KX G z_abs, PySem.W.mg_none_of KX G z_int, PySem.W.mg_none_of KX G z_bool, PySem.W.mg_none_of KX G z_str, PySem.W.mg_none_of KX G z_tuple, PySem.W.mg_none_of KX G z_list, PySem.W.mg_none_of KX G z_dict, PySem.W.mg_none_of KX G z_sum, PySem.W.mg_none_of KX G z_all, PySem.W.mg_none_of KX G z_any, PySem.W.mg_none_of KX G z_repr, PySem.W.mg_none_of KX G z_isinstance, PySem.W.mg_none_of KX G z_zip, PySem.W.mg_none_of KX G z_enumerate⟩
  let kl_WordsError : Kl K mg (Str.ofString "WordsError") := ⟨C_WordsError, ns_WordsError, PySem.W.mg_of KX G ns_WordsError, kC_WordsError, cl_WordsError, ty_WordsError, ex_WordsError, ss_WordsError, ga_WordsError, gg_WordsError, hd_WordsError, ha_WordsError, hm_WordsError⟩
  let kl_InvalidWidth : Kl K mg (Str.ofString "InvalidWidth") := ⟨C_InvalidWidth, ns_InvalidWidth, PySem.W.mg_of KX G ns_InvalidWidth, kC_InvalidWidth, cl_InvalidWidth, ty_InvalidWidth, ex_InvalidWidth, ss_InvalidWidth, ga_InvalidWidth, gg_InvalidWidth, hd_InvalidWidth, ha_InvalidWidth, hm_InvalidWidth⟩
  let kl_InvalidVector : Kl K mg (Str.ofString "InvalidVector") := ⟨C_InvalidVector, ns_InvalidVector, PySem.W.mg_of KX G ns_InvalidVector, kC_InvalidVector, cl_InvalidVector, ty_InvalidVector, ex_InvalidVector, ss_InvalidVector, ga_InvalidVector, gg_InvalidVector, hd_InvalidVector, ha_InvalidVector, hm_InvalidVector⟩
  let kl_InvalidBasis : Kl K mg (Str.ofString "InvalidBasis") := ⟨C_InvalidBasis, ns_InvalidBasis, PySem.W.mg_of KX G ns_InvalidBasis, kC_InvalidBasis, cl_InvalidBasis, ty_InvalidBasis, ex_InvalidBasis, ss_InvalidBasis, ga_InvalidBasis, gg_InvalidBasis, hd_InvalidBasis, ha_InvalidBasis, hm_InvalidBasis⟩
  let kl_InvalidNumber : Kl K mg (Str.ofString "InvalidNumber") := ⟨C_InvalidNumber, ns_InvalidNumber, PySem.W.mg_of KX G ns_InvalidNumber, kC_InvalidNumber, cl_InvalidNumber, ty_InvalidNumber, ex_InvalidNumber, ss_InvalidNumber, ga_InvalidNumber, gg_InvalidNumber, hd_InvalidNumber, ha_InvalidNumber, hm_InvalidNumber⟩
  have kg : KlG K := ⟨kg_n, kg_t⟩
  have so_InvalidBasis : SubsOk K (.ref kl_InvalidBasis.C) so_l_InvalidBasis := (.cons kl_InvalidWidth kl_InvalidBasis kg sb_InvalidWidth_InvalidBasis (.cons kl_InvalidVector kl_InvalidBasis kg sb_InvalidVector_InvalidBasis (.cons kl_InvalidNumber kl_InvalidBasis kg sb_InvalidNumber_InvalidBasis .nil)))
  have so_InvalidNumber : SubsOk K (.ref kl_InvalidNumber.C) so_l_InvalidNumber := (.cons kl_InvalidWidth kl_InvalidNumber kg sb_InvalidWidth_InvalidNumber (.cons kl_InvalidVector kl_InvalidNumber kg sb_InvalidVector_InvalidNumber (.cons kl_InvalidNumber kl_InvalidNumber kg sb_InvalidNumber_InvalidNumber .nil)))
  have so_InvalidVector : SubsOk K (.ref kl_InvalidVector.C) so_l_InvalidVector := (.cons kl_InvalidWidth kl_InvalidVector kg sb_InvalidWidth_InvalidVector (.cons kl_InvalidVector kl_InvalidVector kg sb_InvalidVector_InvalidVector (.cons kl_InvalidNumber kl_InvalidVector kg sb_InvalidNumber_InvalidVector .nil)))
  have so_InvalidWidth : SubsOk K (.ref kl_InvalidWidth.C) so_l_InvalidWidth := (.cons kl_InvalidWidth kl_InvalidWidth kg sb_InvalidWidth_InvalidWidth (.cons kl_InvalidVector kl_InvalidWidth kg sb_InvalidVector_InvalidWidth (.cons kl_InvalidNumber kl_InvalidWidth kg sb_InvalidNumber_InvalidWidth .nil)))
  have so_WordsError : SubsOk K (.ref kl_WordsError.C) so_l_WordsError := (.cons kl_InvalidWidth kl_WordsError kg sb_InvalidWidth_WordsError (.cons kl_InvalidVector kl_WordsError kg sb_InvalidVector_WordsError (.cons kl_InvalidNumber kl_WordsError kg sb_InvalidNumber_WordsError .nil)))
  have mc_InvalidWidth : MsgC K mg (Str.ofString "InvalidWidth") := kl_InvalidWidth.msg xc_InvalidWidth
  have mc_InvalidVector : MsgC K mg (Str.ofString "InvalidVector") := kl_InvalidVector.msg xc_InvalidVector
  have fd_InvalidNumber : FldC P w K mg base (Str.ofString "InvalidNumber") (Str.ofString "value") := fld_mk (B := "IndexError") kl_InvalidNumber kb_Index md_InvalidNumber ov_InvalidNumber sa_InvalidNumber no_InvalidNumber vV_InvalidNumber (PySem.W.mg_none_of KX G z_IndexError) iC_InvalidNumber tI_InvalidNumber lk_InvalidNumber ci_InvalidNumber ⟨rfl, rfl, rfl, by decide +kernel, rfl, by decide +kernel, by decide +kernel⟩ rfl rfl rfl (fun env he => ⟨_, rfl⟩) (fun s us _ hl => .of_eq (match us, hl with | [_, _], _ => rfl))
  have nb_IndexError : mg (Str.ofString "IndexError") = none := PySem.W.mg_none_of KX G z_IndexError
  have h_fits_bounds := ok_fits_bounds (P := P) (w := w) (base := base) nb  (fun_mk (st := st_fits_bounds) l0 c0 k0) (PySem.W.mg_of KX G a0)
  have h_is_width := ok_is_width (P := P) (w := w) (base := base) nb h_fits_bounds ⟨t_MAX_WIDTH, PySem.W.mg_of KX G g_MAX_WIDTH⟩ (fun_mk (st := st_is_width) l1 c1 k1) (PySem.W.mg_of KX G a1)
  have h_need_width := ok_need_width (P := P) (w := w) (base := base) nb h_is_width mc_InvalidWidth (fun_mk (st := st_need_width) l2 c2 k2) (PySem.W.mg_of KX G a2)
  have h_fits_size := ok_fits_size (P := P) (w := w) (base := base) nb h_fits_bounds ⟨t_MAX_SIZE, PySem.W.mg_of KX G g_MAX_SIZE⟩ (fun_mk (st := st_fits_size) l3 c3 k3) (PySem.W.mg_of KX G a3)
  have h_need_size := ok_need_size (P := P) (w := w) (base := base) nb h_fits_size fd_InvalidNumber (fun_mk (st := st_need_size) l4 c4 k4) (PySem.W.mg_of KX G a4)
  have h_fits_word := ok_fits_word (P := P) (w := w) (base := base) nb h_fits_bounds (fun_mk (st := st_fits_word) l5 c5 k5) (PySem.W.mg_of KX G a5)
  have h_fits_words := ok_fits_words (P := P) (w := w) (base := base) nb h_fits_word (fun_mk (st := st_fits_words) l6 c6 k6) (PySem.W.mg_of KX G a6)
  have h_fits_vector := ok_fits_vector (P := P) (w := w) (base := base) nb h_fits_words (fun_mk (st := st_fits_vector) l7 c7 k7) (PySem.W.mg_of KX G a7)
  have h_need_vector := ok_need_vector (P := P) (w := w) (base := base) nb h_fits_vector mc_InvalidVector (fun_mk (st := st_need_vector) l8 c8 k8) (PySem.W.mg_of KX G a8)
  have h_need_vectors := ok_need_vectors (P := P) (w := w) (base := base) nb h_need_vector mc_InvalidVector (fun_mk (st := st_need_vectors) l9 c9 k9) (PySem.W.mg_of KX G a9)
  have h_added := ok_added (P := P) (w := w) (base := base) nb  (fun_mk (st := st_added) l10 c10 k10) (PySem.W.mg_of KX G a10)
  have h_vector_sum := ok_vector_sum (P := P) (w := w) (base := base) nb h_need_width h_need_size h_need_vectors h_added (fun_mk (st := st_vector_sum) l11 c11 k11) (PySem.W.mg_of KX G a11)
  have h_need_any_vector := ok_need_any_vector (P := P) (w := w) (base := base) nb h_fits_size h_need_vector mc_InvalidVector (fun_mk (st := st_need_any_vector) l12 c12 k12) (PySem.W.mg_of KX G a12)
  have h_need_word := ok_need_word (P := P) (w := w) (base := base) nb h_fits_word fd_InvalidNumber (fun_mk (st := st_need_word) l13 c13 k13) (PySem.W.mg_of KX G a13)
  have h_multiplied := ok_multiplied (P := P) (w := w) (base := base) nb  (fun_mk (st := st_multiplied) l14 c14 k14) (PySem.W.mg_of KX G a14)
  have h_vector_multiple := ok_vector_multiple (P := P) (w := w) (base := base) nb h_need_width h_need_any_vector h_need_word h_multiplied (fun_mk (st := st_vector_multiple) l15 c15 k15) (PySem.W.mg_of KX G a15)
  have h_dot := ok_dot (P := P) (w := w) (base := base) nb  (fun_mk (st := st_dot) l16 c16 k16) (PySem.W.mg_of KX G a16)
  have h_dot_product := ok_dot_product (P := P) (w := w) (base := base) nb h_need_width h_need_vector h_need_any_vector h_dot (fun_mk (st := st_dot_product) l17 c17 k17) (PySem.W.mg_of KX G a17)
  have h_level := ok_level (P := P) (w := w) (base := base) nb  (fun_mk (st := st_level) l18 c18 k18) (PySem.W.mg_of KX G a18)
  have h_word_level := ok_word_level (P := P) (w := w) (base := base) nb h_need_width h_need_word h_level (fun_mk (st := st_word_level) l19 c19 k19) (PySem.W.mg_of KX G a19)
  have h_inverse := ok_inverse (P := P) (w := w) (base := base) nb  (fun_mk (st := st_inverse) l20 c20 k20) (PySem.W.mg_of KX G a20)
  have h_word_inverse := ok_word_inverse (P := P) (w := w) (base := base) nb h_need_width h_need_word h_level h_inverse fd_InvalidNumber (fun_mk (st := st_word_inverse) l21 c21 k21) (PySem.W.mg_of KX G a21)
  have h__law_stream := ok__law_stream (P := P) (w := w) (base := base) nb  (fun_mk (st := st__law_stream) l22 c22 k22) (PySem.W.mg_of KX G a22)
  have h__law_draw := ok__law_draw (P := P) (w := w) (base := base) nb  (fun_mk (st := st__law_draw) l23 c23 k23) (PySem.W.mg_of KX G a23)
  have h__law_pick := ok__law_pick (P := P) (w := w) (base := base) nb h__law_draw (fun_mk (st := st__law_pick) l24 c24 k24) (PySem.W.mg_of KX G a24)
  have h__law_row := ok__law_row (P := P) (w := w) (base := base) nb h__law_draw (fun_mk (st := st__law_row) l25 c25 k25) (PySem.W.mg_of KX G a25)
  have h__law_other := ok__law_other (P := P) (w := w) (base := base) nb h__law_pick (fun_mk (st := st__law_other) l26 c26 k26) (PySem.W.mg_of KX G a26)
  have h__law_width := ok__law_width (P := P) (w := w) (base := base) nb h__law_draw (fun_mk (st := st__law_width) l27 c27 k27) (PySem.W.mg_of KX G a27)
  have h__law_size := ok__law_size (P := P) (w := w) (base := base) nb h__law_draw (fun_mk (st := st__law_size) l28 c28 k28) (PySem.W.mg_of KX G a28)
  have h__law_is_word := ok__law_is_word (P := P) (w := w) (base := base) nb  (fun_mk (st := st__law_is_word) l29 c29 k29) (PySem.W.mg_of KX G a29)
  have h__law_is_vector := ok__law_is_vector (P := P) (w := w) (base := base) nb h__law_is_word (fun_mk (st := st__law_is_vector) l30 c30 k30) (PySem.W.mg_of KX G a30)
  have h__law_bent := ok__law_bent (P := P) (w := w) (base := base) nb h__law_draw h__law_pick h__law_other (fun_mk (st := st__law_bent) l31 c31 k31) (PySem.W.mg_of KX G a31)
  have h__law_bad := ok__law_bad (P := P) (w := w) (base := base) nb h__law_other (fun_mk (st := st__law_bad) l32 c32 k32) (PySem.W.mg_of KX G a32)
  have h__law_bad_width := ok__law_bad_width (P := P) (w := w) (base := base) (tp := (fun i => match i with | 0 => pp33 | 1 => pp34 | 2 => pp37 | 3 => pp38 | 4 => pp41 | 5 => pp42 | _ => 0)) nb h__law_is_word h__law_bad (fun_mk (st := st__law_bad_width) l33 c33 k33) (PySem.W.mg_of KX G a33) rfl (hTB _ List.mem_cons_self)
  have h__law_bad_size := ok__law_bad_size (P := P) (w := w) (base := base) (tp := (fun i => match i with | 0 => pp33 | 1 => pp34 | 2 => pp37 | 3 => pp38 | 4 => pp41 | 5 => pp42 | _ => 0)) nb h__law_is_word h__law_bad (fun_mk (st := st__law_bad_size) l34 c34 k34) (PySem.W.mg_of KX G a34) rfl (hTB _ (List.mem_cons_of_mem _ List.mem_cons_self))
  have h__law_word := ok__law_word (P := P) (w := w) (base := base) nb h__law_row (fun_mk (st := st__law_word) l35 c35 k35) (PySem.W.mg_of KX G a35)
  have h__law_refusal := ok__law_refusal (P := P) (w := w) (base := base) nb kl_WordsError kl_InvalidBasis kl_InvalidVector kl_InvalidWidth kl_InvalidNumber so_WordsError so_InvalidBasis so_InvalidVector so_InvalidWidth so_InvalidNumber no_InvalidNumber (fun_mk (st := st__law_refusal) l36 c36 k36) (PySem.W.mg_of KX G a36)
  have h__law_word_right := ok__law_word_right (P := P) (w := w) (base := base) (tp := (fun i => match i with | 0 => pp33 | 1 => pp34 | 2 => pp37 | 3 => pp38 | 4 => pp41 | 5 => pp42 | _ => 0)) nb h_word_level h_word_inverse h__law_is_word h__law_refusal (fun_mk (st := st__law_word_right) l37 c37 k37) (PySem.W.mg_of KX G a37) rfl (hTB _ (List.mem_cons_of_mem _ (List.mem_cons_of_mem _ List.mem_cons_self)))
  have h__law_bad_word := ok__law_bad_word (P := P) (w := w) (base := base) (tp := (fun i => match i with | 0 => pp33 | 1 => pp34 | 2 => pp37 | 3 => pp38 | 4 => pp41 | 5 => pp42 | _ => 0)) nb h__law_is_word h__law_bad (fun_mk (st := st__law_bad_word) l38 c38 k38) (PySem.W.mg_of KX G a38) rfl (hTB _ (List.mem_cons_of_mem _ (List.mem_cons_of_mem _ (List.mem_cons_of_mem _ List.mem_cons_self))))
  have h__law_bad_vector := ok__law_bad_vector (P := P) (w := w) (base := base) nb h__law_row h__law_is_vector h__law_bent (fun_mk (st := st__law_bad_vector) l39 c39 k39) (PySem.W.mg_of KX G a39)
  have h__law_is_any := ok__law_is_any (P := P) (w := w) (base := base) nb h__law_is_vector (fun_mk (st := st__law_is_any) l40 c40 k40) (PySem.W.mg_of KX G a40)
  have h__law_errors_right := ok__law_errors_right (P := P) (w := w) (base := base) (tp := (fun i => match i with | 0 => pp33 | 1 => pp34 | 2 => pp37 | 3 => pp38 | 4 => pp41 | 5 => pp42 | _ => 0)) nb h_vector_sum h_vector_multiple h_dot_product h_word_level h_word_inverse h__law_row h__law_bad_width h__law_bad_size h__law_refusal h__law_bad_word h__law_bad_vector h__law_is_any (fun_mk (st := st__law_errors_right) l41 c41 k41) (PySem.W.mg_of KX G a41) rfl (hTB _ (List.mem_cons_of_mem _ (List.mem_cons_of_mem _ (List.mem_cons_of_mem _ (List.mem_cons_of_mem _ List.mem_cons_self)))))
  have h__law_long_right := ok__law_long_right (P := P) (w := w) (base := base) (tp := (fun i => match i with | 0 => pp33 | 1 => pp34 | 2 => pp37 | 3 => pp38 | 4 => pp41 | 5 => pp42 | _ => 0)) nb h_vector_multiple h_dot_product h__law_refusal h__law_word_right (fun_mk (st := st__law_long_right) l42 c42 k42) (PySem.W.mg_of KX G a42) rfl (hTB _ (List.mem_cons_of_mem _ (List.mem_cons_of_mem _ (List.mem_cons_of_mem _ (List.mem_cons_of_mem _ (List.mem_cons_of_mem _ List.mem_cons_self))))))
  have h_law := ok_law (P := P) (w := w) (base := base) (tp := (fun i => match i with | 0 => pp33 | 1 => pp34 | 2 => pp37 | 3 => pp38 | 4 => pp41 | 5 => pp42 | _ => 0)) nb h__law_stream h__law_width h__law_size h__law_word h__law_word_right h__law_errors_right h__law_long_right (fun_mk (st := st_law) l43 c43 k43) (PySem.W.mg_of KX G a43)
  exact h_law
end T
open PySem PySem.W PyProof.Rows
set_option maxRecDepth 100000 in
set_option maxHeartbeats 0 in
theorem PySem.Challenge.cw_wordlaws_k03_levels_inverses_and_errors_holds : PySem.Challenge.rw_wordlaws_k03_levels_inverses_and_errors.Holds := by
  w_on; o_law; k_head; (case hw => w_witness2)
  k_fill
  refine Z.walk_g (l := PySem.Challenge.rw_wordlaws_k03_levels_inverses_and_errors) (n := 63) (k := 15) rfl (by decide) rfl rfl ⟨rfl, by decide, by decide⟩ (fun w h Y => by first | exact PySem.W.kIn_of Y | exact PySem.W.km_in_of Y) (by first | rfl | decide +kernel) ?KM ?F
  case KM => intro w; first | rfl | kernel_rfl | decide +kernel
  case F =>
    intro w mg fa h KX G hmg TO
    refine' T.all_mk KX G TO ?g_MAX_WIDTH ?g_MAX_SIZE ?z_len ?z_range ?z_max ?z_min ?z_abs ?z_int ?z_bool ?z_str ?z_tuple ?z_list ?z_dict ?z_sum ?z_all ?z_any ?z_repr ?z_isinstance ?z_zip ?z_enumerate ?z_IndexError ?kg_n ?kg_t ?ns_WordsError ?kC_WordsError ?cl_WordsError ?ty_WordsError ?ex_WordsError ?ss_WordsError ?ga_WordsError ?gg_WordsError ?hd_WordsError ?ha_WordsError ?hm_WordsError ?ns_InvalidWidth ?kC_InvalidWidth ?cl_InvalidWidth ?ty_InvalidWidth ?ex_InvalidWidth ?ss_InvalidWidth ?ga_InvalidWidth ?gg_InvalidWidth ?hd_InvalidWidth ?ha_InvalidWidth ?hm_InvalidWidth ?ns_InvalidVector ?kC_InvalidVector ?cl_InvalidVector ?ty_InvalidVector ?ex_InvalidVector ?ss_InvalidVector ?ga_InvalidVector ?gg_InvalidVector ?hd_InvalidVector ?ha_InvalidVector ?hm_InvalidVector ?ns_InvalidBasis ?kC_InvalidBasis ?cl_InvalidBasis ?ty_InvalidBasis ?ex_InvalidBasis ?ss_InvalidBasis ?ga_InvalidBasis ?gg_InvalidBasis ?hd_InvalidBasis ?ha_InvalidBasis ?hm_InvalidBasis ?ns_InvalidNumber ?kC_InvalidNumber ?cl_InvalidNumber ?ty_InvalidNumber ?ex_InvalidNumber ?ss_InvalidNumber ?ga_InvalidNumber ?gg_InvalidNumber ?hd_InvalidNumber ?ha_InvalidNumber ?hm_InvalidNumber ?sb_InvalidWidth_InvalidBasis ?sb_InvalidVector_InvalidBasis ?sb_InvalidNumber_InvalidBasis ?sb_InvalidWidth_InvalidNumber ?sb_InvalidVector_InvalidNumber ?sb_InvalidNumber_InvalidNumber ?sb_InvalidWidth_InvalidVector ?sb_InvalidVector_InvalidVector ?sb_InvalidNumber_InvalidVector ?sb_InvalidWidth_InvalidWidth ?sb_InvalidVector_InvalidWidth ?sb_InvalidNumber_InvalidWidth ?sb_InvalidWidth_WordsError ?sb_InvalidVector_WordsError ?sb_InvalidNumber_WordsError ?xc_InvalidWidth ?xc_InvalidVector ?md_InvalidNumber ?ov_InvalidNumber ?sa_InvalidNumber ?no_InvalidNumber ?vV_InvalidNumber ?iC_InvalidNumber ?tI_InvalidNumber ?lk_InvalidNumber ?ci_InvalidNumber ?a0 ?l0 ?c0 ?k0 ?a1 ?l1 ?c1 ?k1 ?a2 ?l2 ?c2 ?k2 ?a3 ?l3 ?c3 ?k3 ?a4 ?l4 ?c4 ?k4 ?a5 ?l5 ?c5 ?k5 ?a6 ?l6 ?c6 ?k6 ?a7 ?l7 ?c7 ?k7 ?a8 ?l8 ?c8 ?k8 ?a9 ?l9 ?c9 ?k9 ?a10 ?l10 ?c10 ?k10 ?a11 ?l11 ?c11 ?k11 ?a12 ?l12 ?c12 ?k12 ?a13 ?l13 ?c13 ?k13 ?a14 ?l14 ?c14 ?k14 ?a15 ?l15 ?c15 ?k15 ?a16 ?l16 ?c16 ?k16 ?a17 ?l17 ?c17 ?k17 ?a18 ?l18 ?c18 ?k18 ?a19 ?l19 ?c19 ?k19 ?a20 ?l20 ?c20 ?k20 ?a21 ?l21 ?c21 ?k21 ?a22 ?l22 ?c22 ?k22 ?a23 ?l23 ?c23 ?k23 ?a24 ?l24 ?c24 ?k24 ?a25 ?l25 ?c25 ?k25 ?a26 ?l26 ?c26 ?k26 ?a27 ?l27 ?c27 ?k27 ?a28 ?l28 ?c28 ?k28 ?a29 ?l29 ?c29 ?k29 ?a30 ?l30 ?c30 ?k30 ?a31 ?l31 ?c31 ?k31 ?a32 ?l32 ?c32 ?k32 ?a33 ?l33 ?c33 ?k33 ?lc33 ?e33 ?ch33 ?no33 ?rq33 ?a34 ?l34 ?c34 ?k34 ?lc34 ?e34 ?ch34 ?no34 ?rq34 ?a35 ?l35 ?c35 ?k35 ?a36 ?l36 ?c36 ?k36 ?a37 ?l37 ?c37 ?k37 ?lc37 ?e37 ?ch37 ?no37 ?rq37 ?a38 ?l38 ?c38 ?k38 ?lc38 ?e38 ?ch38 ?no38 ?rq38 ?a39 ?l39 ?c39 ?k39 ?a40 ?l40 ?c40 ?k40 ?a41 ?l41 ?c41 ?k41 ?lc41 ?e41 ?ch41 ?no41 ?rq41 ?a42 ?l42 ?c42 ?k42 ?lc42 ?e42 ?ch42 ?no42 ?rq42 ?a43 ?l43 ?c43 ?k43 ?nd_
    (case g_MAX_WIDTH => k_is)
    (case g_MAX_SIZE => k_is)
    (case z_len => k_is)
    (case z_range => k_is)
    (case z_max => k_is)
    (case z_min => k_is)
    (case z_abs => k_is)
    (case z_int => k_is)
    (case z_bool => k_is)
    (case z_str => k_is)
    (case z_tuple => k_is)
    (case z_list => k_is)
    (case z_dict => k_is)
    (case z_sum => k_is)
    (case z_all => k_is)
    (case z_any => k_is)
    (case z_repr => k_is)
    (case z_isinstance => k_is)
    (case z_zip => k_is)
    (case z_enumerate => k_is)
    (case z_IndexError => k_is)
    (case kg_n => k_is)
    (case kg_t => k_is)
    (case ns_WordsError => k_is)
    (case kC_WordsError => k_is)
    (case cl_WordsError => k_is)
    (case ty_WordsError => k_is)
    (case ex_WordsError => k_is)
    (case ss_WordsError => k_is)
    (case ga_WordsError => k_is)
    (case gg_WordsError => k_is)
    (case hd_WordsError => k_is)
    (case ha_WordsError => k_is)
    (case hm_WordsError => k_is)
    (case ns_InvalidWidth => k_is)
    (case kC_InvalidWidth => k_is)
    (case cl_InvalidWidth => k_is)
    (case ty_InvalidWidth => k_is)
    (case ex_InvalidWidth => k_is)
    (case ss_InvalidWidth => k_is)
    (case ga_InvalidWidth => k_is)
    (case gg_InvalidWidth => k_is)
    (case hd_InvalidWidth => k_is)
    (case ha_InvalidWidth => k_is)
    (case hm_InvalidWidth => k_is)
    (case ns_InvalidVector => k_is)
    (case kC_InvalidVector => k_is)
    (case cl_InvalidVector => k_is)
    (case ty_InvalidVector => k_is)
    (case ex_InvalidVector => k_is)
    (case ss_InvalidVector => k_is)
    (case ga_InvalidVector => k_is)
    (case gg_InvalidVector => k_is)
    (case hd_InvalidVector => k_is)
    (case ha_InvalidVector => k_is)
    (case hm_InvalidVector => k_is)
    (case ns_InvalidBasis => k_is)
    (case kC_InvalidBasis => k_is)
    (case cl_InvalidBasis => k_is)
    (case ty_InvalidBasis => k_is)
    (case ex_InvalidBasis => k_is)
    (case ss_InvalidBasis => k_is)
    (case ga_InvalidBasis => k_is)
    (case gg_InvalidBasis => k_is)
    (case hd_InvalidBasis => k_is)
    (case ha_InvalidBasis => k_is)
    (case hm_InvalidBasis => k_is)
    (case ns_InvalidNumber => k_is)
    (case kC_InvalidNumber => k_is)
    (case cl_InvalidNumber => k_is)
    (case ty_InvalidNumber => k_is)
    (case ex_InvalidNumber => k_is)
    (case ss_InvalidNumber => k_is)
    (case ga_InvalidNumber => k_is)
    (case gg_InvalidNumber => k_is)
    (case hd_InvalidNumber => k_is)
    (case ha_InvalidNumber => k_is)
    (case hm_InvalidNumber => k_is)
    (case sb_InvalidWidth_InvalidBasis => k_is)
    (case sb_InvalidVector_InvalidBasis => k_is)
    (case sb_InvalidNumber_InvalidBasis => k_is)
    (case sb_InvalidWidth_InvalidNumber => k_is)
    (case sb_InvalidVector_InvalidNumber => k_is)
    (case sb_InvalidNumber_InvalidNumber => k_is)
    (case sb_InvalidWidth_InvalidVector => k_is)
    (case sb_InvalidVector_InvalidVector => k_is)
    (case sb_InvalidNumber_InvalidVector => k_is)
    (case sb_InvalidWidth_InvalidWidth => k_is)
    (case sb_InvalidVector_InvalidWidth => k_is)
    (case sb_InvalidNumber_InvalidWidth => k_is)
    (case sb_InvalidWidth_WordsError => k_is)
    (case sb_InvalidVector_WordsError => k_is)
    (case sb_InvalidNumber_WordsError => k_is)
    (case xc_InvalidWidth => k_exc)
    (case xc_InvalidVector => k_exc)
    (case md_InvalidNumber => kx_is)
    (case ov_InvalidNumber => kx_is)
    (case sa_InvalidNumber => k_is)
    (case no_InvalidNumber => k_is)
    (case vV_InvalidNumber => k_is)
    (case iC_InvalidNumber => k_is)
    (case tI_InvalidNumber => k_is)
    (case lk_InvalidNumber => k_is)
    (case ci_InvalidNumber => k_is)
    (case a0 => k_is)
    (case l0 => k_is)
    (case c0 => k_is)
    (case k0 => k_is)
    (case a1 => k_is)
    (case l1 => k_is)
    (case c1 => k_is)
    (case k1 => k_is)
    (case a2 => k_is)
    (case l2 => k_is)
    (case c2 => k_is)
    (case k2 => k_is)
    (case a3 => k_is)
    (case l3 => k_is)
    (case c3 => k_is)
    (case k3 => k_is)
    (case a4 => k_is)
    (case l4 => k_is)
    (case c4 => k_is)
    (case k4 => k_is)
    (case a5 => k_is)
    (case l5 => k_is)
    (case c5 => k_is)
    (case k5 => k_is)
    (case a6 => k_is)
    (case l6 => k_is)
    (case c6 => k_is)
    (case k6 => k_is)
    (case a7 => k_is)
    (case l7 => k_is)
    (case c7 => k_is)
    (case k7 => k_is)
    (case a8 => k_is)
    (case l8 => k_is)
    (case c8 => k_is)
    (case k8 => k_is)
    (case a9 => k_is)
    (case l9 => k_is)
    (case c9 => k_is)
    (case k9 => k_is)
    (case a10 => k_is)
    (case l10 => k_is)
    (case c10 => k_is)
    (case k10 => k_is)
    (case a11 => k_is)
    (case l11 => k_is)
    (case c11 => k_is)
    (case k11 => k_is)
    (case a12 => k_is)
    (case l12 => k_is)
    (case c12 => k_is)
    (case k12 => k_is)
    (case a13 => k_is)
    (case l13 => k_is)
    (case c13 => k_is)
    (case k13 => k_is)
    (case a14 => k_is)
    (case l14 => k_is)
    (case c14 => k_is)
    (case k14 => k_is)
    (case a15 => k_is)
    (case l15 => k_is)
    (case c15 => k_is)
    (case k15 => k_is)
    (case a16 => k_is)
    (case l16 => k_is)
    (case c16 => k_is)
    (case k16 => k_is)
    (case a17 => k_is)
    (case l17 => k_is)
    (case c17 => k_is)
    (case k17 => k_is)
    (case a18 => k_is)
    (case l18 => k_is)
    (case c18 => k_is)
    (case k18 => k_is)
    (case a19 => k_is)
    (case l19 => k_is)
    (case c19 => k_is)
    (case k19 => k_is)
    (case a20 => k_is)
    (case l20 => k_is)
    (case c20 => k_is)
    (case k20 => k_is)
    (case a21 => k_is)
    (case l21 => k_is)
    (case c21 => k_is)
    (case k21 => k_is)
    (case a22 => k_is)
    (case l22 => k_is)
    (case c22 => k_is)
    (case k22 => k_is)
    (case a23 => k_is)
    (case l23 => k_is)
    (case c23 => k_is)
    (case k23 => k_is)
    (case a24 => k_is)
    (case l24 => k_is)
    (case c24 => k_is)
    (case k24 => k_is)
    (case a25 => k_is)
    (case l25 => k_is)
    (case c25 => k_is)
    (case k25 => k_is)
    (case a26 => k_is)
    (case l26 => k_is)
    (case c26 => k_is)
    (case k26 => k_is)
    (case a27 => k_is)
    (case l27 => k_is)
    (case c27 => k_is)
    (case k27 => k_is)
    (case a28 => k_is)
    (case l28 => k_is)
    (case c28 => k_is)
    (case k28 => k_is)
    (case a29 => k_is)
    (case l29 => k_is)
    (case c29 => k_is)
    (case k29 => k_is)
    (case a30 => k_is)
    (case l30 => k_is)
    (case c30 => k_is)
    (case k30 => k_is)
    (case a31 => k_is)
    (case l31 => k_is)
    (case c31 => k_is)
    (case k31 => k_is)
    (case a32 => k_is)
    (case l32 => k_is)
    (case c32 => k_is)
    (case k32 => k_is)
    (case a33 => k_is)
    (case l33 => k_is)
    (case c33 => k_is)
    (case k33 => k_is)
    (case lc33 => k_is)
    (case e33 => rfl)
    (case ch33 => first | rfl | kernel_rfl | decide +kernel)
    (case no33 => first | rfl | kernel_rfl | decide +kernel)
    (case rq33 => first | rfl | decide +kernel)
    (case a34 => k_is)
    (case l34 => k_is)
    (case c34 => k_is)
    (case k34 => k_is)
    (case lc34 => k_is)
    (case e34 => rfl)
    (case ch34 => first | rfl | kernel_rfl | decide +kernel)
    (case no34 => first | rfl | kernel_rfl | decide +kernel)
    (case rq34 => first | rfl | decide +kernel)
    (case a35 => k_is)
    (case l35 => k_is)
    (case c35 => k_is)
    (case k35 => k_is)
    (case a36 => k_is)
    (case l36 => k_is)
    (case c36 => k_is)
    (case k36 => k_is)
    (case a37 => k_is)
    (case l37 => k_is)
    (case c37 => k_is)
    (case k37 => k_is)
    (case lc37 => k_is)
    (case e37 => rfl)
    (case ch37 => first | rfl | kernel_rfl | decide +kernel)
    (case no37 => first | rfl | kernel_rfl | decide +kernel)
    (case rq37 => first | rfl | decide +kernel)
    (case a38 => k_is)
    (case l38 => k_is)
    (case c38 => k_is)
    (case k38 => k_is)
    (case lc38 => k_is)
    (case e38 => rfl)
    (case ch38 => first | rfl | kernel_rfl | decide +kernel)
    (case no38 => first | rfl | kernel_rfl | decide +kernel)
    (case rq38 => first | rfl | decide +kernel)
    (case a39 => k_is)
    (case l39 => k_is)
    (case c39 => k_is)
    (case k39 => k_is)
    (case a40 => k_is)
    (case l40 => k_is)
    (case c40 => k_is)
    (case k40 => k_is)
    (case a41 => k_is)
    (case l41 => k_is)
    (case c41 => k_is)
    (case k41 => k_is)
    (case lc41 => k_is)
    (case e41 => rfl)
    (case ch41 => first | rfl | kernel_rfl | decide +kernel)
    (case no41 => first | rfl | kernel_rfl | decide +kernel)
    (case rq41 => first | rfl | decide +kernel)
    (case a42 => k_is)
    (case l42 => k_is)
    (case c42 => k_is)
    (case k42 => k_is)
    (case lc42 => k_is)
    (case e42 => rfl)
    (case ch42 => first | rfl | kernel_rfl | decide +kernel)
    (case no42 => first | rfl | kernel_rfl | decide +kernel)
    (case rq42 => first | rfl | decide +kernel)
    (case a43 => k_is)
    (case l43 => k_is)
    (case c43 => k_is)
    (case k43 => k_is)
    (case nd_ => decide)
#print axioms PySem.Challenge.cw_wordlaws_k03_levels_inverses_and_errors_holds
