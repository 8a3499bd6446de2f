import PyProof.Rows.All
import Wide.All
import OpenK.AllK
import Wide.FinOn
import HandS.ForMost
import HandS.Exc
import HandS.ExcOwn
import HandS.Star
import HandS.IsInst
import HandS.Wide
import HandS.WideMore
import HandS.WideBits
import HandS.Zip
import HandS.Defaults
import HandS.TupAny
import HandS.TupMul
import KE.DatumIndex
import HandS.RaiseMore
import HandS.NoneIn
import PySem.Challenge.RW_wordlaws_k02_sums_multiples_and_dot_prod
import HandS.Text
set_option Elab.async false
set_option linter.all false
set_option maxRecDepth 100000
namespace Z
open PySem PySem.Spec PyProof.Rows L2

/-! ## Data in the abstract heap, apart from the addresses that a store owns -/
/-- o: what the store owns; g: what nobody may touch or name for a while -/
structure Ow where
  o : List Addr
  g : List Addr
def Ow.no (f : Ow) (a : Addr) : Prop := a ∉ f.o ∧ a ∉ f.g
def Ow.add (f : Ow) (ex : List Addr) : Ow := ⟨f.o ++ ex, f.g⟩
def Ow.ban (f : Ow) (a : Addr) : Ow := ⟨f.o, a :: f.g⟩
theorem Ow.add_nil (f : Ow) : f.add [] = f := by
  cases f; unfold Ow.add; rw [List.append_nil]
theorem Ow.add_add (f : Ow) (x y : List Addr) : (f.add x).add y = f.add (x ++ y) := by
  cases f; unfold Ow.add; rw [List.append_assoc]
theorem Ow.no_add {f : Ow} {ex : List Addr} {a : Addr} (h : f.no a) (n : a ∉ ex) : (f.add ex).no a :=
  ⟨fun m => (List.mem_append.mp m).elim h.1 n, h.2⟩
theorem Ow.no_of_add {f : Ow} {ex : List Addr} {a : Addr} (h : (f.add ex).no a) : f.no a := ⟨fun m => h.1 (List.mem_append_left _ m), h.2⟩
theorem Ow.no_ban {f : Ow} {D a : Addr} (h : f.no a) (n : a ≠ D) : (f.ban D).no a := ⟨h.1, fun m => (List.mem_cons.mp m).elim n h.2⟩
theorem Ow.no_of_ban {f : Ow} {D a : Addr} (h : (f.ban D).no a) : f.no a := ⟨h.1, fun m => h.2 (List.mem_cons_of_mem _ m)⟩
def kd : Key → PyData
  | .inl i => .int i
  | .inr x => .str x
/-- a list's items may be read at a, and nobody who owns will change them -/
def LL (K : PySem.W.Frag) (f : Ow) (H : Hp) (a : Addr) (xs : List V) : Prop := H a = some (.lst xs) ∧ f.no a
/-- a list from outside, read only -/
def LS (K : PySem.W.Frag) (f : Ow) (H : Hp) (a : Addr) (xs : List V) : Prop :=
  (Rd H a (.lst xs) ∧ f.no a) ∨ (∃ o its n, List.lookup a K = some o ∧ o.cls = Value.type "list" ∧ o.dict = none ∧
    o.data = Data.seq its n ∧ its.size ≤ sizeLine ∧ Vals xs its.toList)
def LT (K : PySem.W.Frag) (f : Ow) (H : Hp) (a : Addr) (xs : List V) : Prop :=
  (Rd H a (.tup xs) ∧ f.no a) ∨ (∃ o its n, List.lookup a K = some o ∧ o.cls = Value.type "tuple" ∧
    o.data = Data.seq its n ∧ its.size ≤ sizeLine ∧ Vals xs its.toList)
theorem LL.sq {K : PySem.W.Frag} {f : Ow} {H : Hp} {a : Addr} {xs : List V} (h : LL K f H a xs) : SqL K H a xs := .inl (.inl h.1)
theorem LS.sq {K : PySem.W.Frag} {f : Ow} {H : Hp} {a : Addr} {xs : List V} (h : LS K f H a xs) : SqL K H a xs :=
  h.imp (fun z => z.1) id
theorem LT.sq {K : PySem.W.Frag} {f : Ow} {H : Hp} {a : Addr} {xs : List V} (h : LT K f H a xs) : SqT K H a xs :=
  h.imp (fun z => z.1) id

mutual
inductive Is (K : PySem.W.Frag) (f : Ow) (H : Hp) : V → PyData → Prop
  | non : Is K f H .non .none
  | bl (b : Bool) : Is K f H (.bl b) (.bool b)
  | int (i : Int) : Is K f H (.int i) (.int i)
  | str (x : Str) : Is K f H (.str x) (.str x)
  | lst {a : Addr} {xs : List V} {ds : List PyData} : LL K f H a xs → IsAll K f H xs ds → Is K f H (.ref a) (.list ds)
  | tup {a : Addr} {xs : List V} {ds : List PyData} : LT K f H a xs → IsAll K f H xs ds → Is K f H (.ref a) (.tuple ds)
  | dic {a : Addr} {kvs : List (Key × V)} {ds : List (PyData × PyData)} : Rd H a (.dK kvs) → f.no a → IsKv K f H kvs ds → Is K f H (.ref a) (.dict ds)
inductive IsAll (K : PySem.W.Frag) (f : Ow) (H : Hp) : List V → List PyData → Prop
  | nil : IsAll K f H [] []
  | cons {v : V} {vs : List V} {d : PyData} {ds : List PyData} : Is K f H v d → IsAll K f H vs ds → IsAll K f H (v :: vs) (d :: ds)
inductive IsKv (K : PySem.W.Frag) (f : Ow) (H : Hp) : List (Key × V) → List (PyData × PyData) → Prop
  | nil : IsKv K f H [] []
  | cons {k : Key} {v : V} {vs : List (Key × V)} {d : PyData} {ds : List (PyData × PyData)} : Is K f H v d → IsKv K f H vs ds → IsKv K f H ((k, v) :: vs) ((kd k, d) :: ds)
end

/-- what is not owned stays; what is neither owned nor banned stays -/
def Kp (f : Ow) (H H' : Hp) : Prop := ∀ a o, a ∉ f.o → H a = some o → H' a = some o
def Kq (f : Ow) (H H' : Hp) : Prop := ∀ a o, f.no a → H a = some o → H' a = some o
theorem Kp.q {f : Ow} {H H' : Hp} (k : Kp f H H') : Kq f H H' := fun a o n e => k a o n.1 e
theorem Kp.refl (f : Ow) (H : Hp) : Kp f H H := fun _ _ _ h => h
theorem Kq.refl (f : Ow) (H : Hp) : Kq f H H := fun _ _ _ h => h
theorem Kp.trans {f : Ow} {H H1 H2 : Hp} (a : Kp f H H1) (b : Kp f H1 H2) : Kp f H H2 := fun c o n h => b c o n (a c o n h)
theorem Kp.new {f : Ow} {H : Hp} {p : Addr} {o : HO} (h : H p = none) : Kp f H (upd H p o) := fun a u _ e => by
  rw [upd_ne (ne_of_none e h)]; exact e
theorem Kp.of_same {f : Ow} {H H' : Hp} (h : Same H H') : Kp f H H' := fun a o _ e => h a o e
theorem Rd.kq {f : Ow} {H H' : Hp} {a : Addr} {u : HO} (h : Rd H a u) (n : f.no a) (k : Kq f H H') : Rd H' a u := by
  rcases h with h | ⟨o, h⟩
  · exact .inl (k _ _ n h)
  · exact .inr ⟨o, k _ _ n h⟩
theorem Rd.ne {H : Hp} {a : Addr} {u : HO} (h : Rd H a u) : ∃ o, H a = some o := by
  rcases h with h | ⟨o, h⟩
  · exact ⟨_, h⟩
  · exact ⟨_, h⟩
/-- f' bans and owns beside f only what was free -/
def Gr (f f' : Ow) (H : Hp) : Prop := ∀ a o, f.no a → H a = some o → f'.no a
theorem Gr.refl (f : Ow) (H : Hp) : Gr f f H := fun _ _ h _ => h
theorem Gr.app {f : Ow} {g : List Addr} {H : Hp} (h : ∀ a ∈ g, H a = none) : Gr f (f.add g) H := fun a o n e => Ow.no_add n fun m => by
  rw [h a m] at e; cases e
theorem Gr.sub {f : Ow} {g : List Addr} {H : Hp} : Gr (f.add g) f H := fun _ _ n _ => Ow.no_of_add n
theorem Gr.ban {f : Ow} {D : Addr} {H : Hp} (h : H D = none) : Gr f (f.ban D) H := fun a o n e => Ow.no_ban n (ne_of_none e h)
theorem Gr.unban {f : Ow} {D : Addr} {H : Hp} : Gr (f.ban D) f H := fun _ _ n _ => Ow.no_of_ban n

section
variable {K : PySem.W.Frag} {f f' : Ow} {H H' : Hp}
theorem LL.keep {a : Addr} {xs : List V} (h : LL K f H a xs) (k : Kq f H H') (g : Gr f f' H) : LL K f' H' a xs :=
  ⟨k _ _ h.2 h.1, g _ _ h.2 h.1⟩
theorem LS.keep {a : Addr} {xs : List V} (h : LS K f H a xs) (k : Kq f H H') (g : Gr f f' H) : LS K f' H' a xs := by
  rcases h with ⟨h, n⟩ | h
  · obtain ⟨o, e⟩ := Rd.ne h
    exact .inl ⟨Rd.kq h n k, g a o n e⟩
  · exact .inr h
theorem LT.keep {a : Addr} {xs : List V} (h : LT K f H a xs) (k : Kq f H H') (g : Gr f f' H) : LT K f' H' a xs := by
  rcases h with ⟨h, n⟩ | h
  · obtain ⟨o, e⟩ := Rd.ne h
    exact .inl ⟨Rd.kq h n k, g a o n e⟩
  · exact .inr h
mutual
theorem Is.keep (k : Kq f H H') (g : Gr f f' H) : ∀ {v : V} {d : PyData}, Is K f H v d → Is K f' H' v d
  | _, _, .non => .non
  | _, _, .bl b => .bl b
  | _, _, .int i => .int i
  | _, _, .str x => .str x
  | _, _, .lst h r => .lst (h.keep k g) (IsAll.keep k g r)
  | _, _, .tup h r => .tup (h.keep k g) (IsAll.keep k g r)
  | _, _, .dic h n r => .dic (Rd.kq h n k) (let ⟨o, e⟩ := Rd.ne h; g _ o n e) (IsKv.keep k g r)
theorem IsAll.keep (k : Kq f H H') (g : Gr f f' H) : ∀ {v : List V} {d : List PyData}, IsAll K f H v d → IsAll K f' H' v d
  | _, _, .nil => .nil
  | _, _, .cons h r => .cons (Is.keep k g h) (IsAll.keep k g r)
theorem IsKv.keep (k : Kq f H H') (g : Gr f f' H) : ∀ {v : List (Key × V)} {d : List (PyData × PyData)}, IsKv K f H v d → IsKv K f' H' v d
  | _, _, .nil => .nil
  | _, _, .cons h r => .cons (Is.keep k g h) (IsKv.keep k g r)
end
theorem IsAll.len : ∀ {vs : List V} {ds : List PyData}, IsAll K f H vs ds → vs.length = ds.length
  | _, _, .nil => rfl
  | _, _, .cons _ r => congrArg (· + 1) (IsAll.len r)
theorem IsAll.get : ∀ {vs : List V} {ds : List PyData} {i : Nat} {d : PyData}, IsAll K f H vs ds → ds[i]? = some d → ∃ v, vs[i]? = some v ∧ Is K f H v d
  | _, _, _, _, .nil, e => by simp at e
  | _, _, 0, _, .cons h _, e => by
    simp at e; subst e; exact ⟨_, rfl, h⟩
  | _, _, i + 1, d, .cons _ r, e => by
    obtain ⟨v, h1, h2⟩ := IsAll.get (i := i) (d := d) r (by simpa using e)
    exact ⟨v, by simpa using h1, h2⟩
theorem IsAll.app : ∀ {vs ws : List V} {ds es : List PyData}, IsAll K f H vs ds → IsAll K f H ws es → IsAll K f H (vs ++ ws) (ds ++ es)
  | _, _, _, _, .nil, s => s
  | _, _, _, _, .cons h r, s => .cons h (IsAll.app r s)
theorem IsAll.set : ∀ {vs : List V} {ds : List PyData} {v : V} {d : PyData} (i : Nat), IsAll K f H vs ds → Is K f H v d → IsAll K f H (vs.set i v) (ds.set i d)
  | _, _, _, _, _, .nil, _ => .nil
  | _, _, _, _, 0, .cons _ r, h => .cons h r
  | _, _, _, _, i + 1, .cons q r, h => .cons q (IsAll.set i r h)
theorem IsAll.take : ∀ {vs : List V} {ds : List PyData} (n : Nat), IsAll K f H vs ds → IsAll K f H (vs.take n) (ds.take n)
  | _, _, 0, _ => .nil
  | _, _, _ + 1, .nil => .nil
  | _, _, n + 1, .cons h r => .cons h (IsAll.take n r)
theorem IsAll.drop : ∀ {vs : List V} {ds : List PyData} (n : Nat), IsAll K f H vs ds → IsAll K f H (vs.drop n) (ds.drop n)
  | _, _, 0, r => r
  | _, _, _ + 1, .nil => .nil
  | _, _, n + 1, .cons _ r => IsAll.drop n r
theorem IsAll.ints : ∀ {vs : List V} {ns : List Int}, IsAll K f H vs (ns.map .int) → vs = ns.map V.int
  | _, [], .nil => rfl
  | _, n :: ns, .cons (.int _) r => congrArg (V.int n :: ·) (IsAll.ints r)
theorem IsAll.of_ints : ∀ ns : List Int, IsAll K f H (ns.map V.int) (ns.map .int)
  | [] => .nil
  | n :: ns => .cons (.int n) (IsAll.of_ints ns)
theorem IsAll.bools : ∀ {vs : List V} {ns : List Bool}, IsAll K f H vs (ns.map .bool) → vs = ns.map V.bl
  | _, [], .nil => rfl
  | _, n :: ns, .cons (.bl _) r => congrArg (V.bl n :: ·) (IsAll.bools r)

/-! ## to the layer's Dp -/
def noDict : PyData → Bool
  | .dict _ => false
  | _ => true
mutual
theorem Is.dp : ∀ {d : PyData} {v : V}, Is K f H v d → d.hasDict = false → Dp K H v d
  | .none, _, h, _ => by cases h; exact .non
  | .bool b, _, h, _ => by cases h; exact .bl b
  | .int i, _, h, _ => by cases h; exact .int i
  | .str x, _, h, _ => by cases h; exact .str x
  | .list ds, _, h, n => by
    cases h with
    | lst h r => exact .lst h.sq (IsAll.dp r (by simpa [PyData.hasDict] using n))
  | .tuple ds, _, h, n => by
    cases h with
    | tup h r => exact .tup h.sq (IsAll.dp r (by simpa [PyData.hasDict] using n))
  | .dict _, _, h, n => by simp [PyData.hasDict] at n
theorem IsAll.dp : ∀ {ds : List PyData} {vs : List V}, IsAll K f H vs ds → PyData.hasDictAll ds = false → DpAll K H vs ds
  | [], _, h, _ => by cases h; exact .nil
  | d :: ds, _, h, n => by
    cases h with
    | cons h r =>
      have n' : d.hasDict = false ∧ PyData.hasDictAll ds = false := by simpa [PyData.hasDictAll] using n
      exact .cons (Is.dp h n'.1) (IsAll.dp r n'.2)
end
end

/-! ## Slots and stores -/
inductive SV where
  | d (x : PyData)
  | r (i : Nat)
  | s (ns : List Int)
inductive Ob where
  | lst (xs : List PyData)
  | dct (kvs : List (Key × PyData))
abbrev Sto := List Ob
abbrev Sg := List (Option SV)
inductive IsKd (K : PySem.W.Frag) (f : Ow) (H : Hp) : List (Key × V) → List (Key × PyData) → Prop
  | nil : IsKd K f H [] []
  | cons {k : Key} {v : V} {vs : List (Key × V)} {d : PyData} {ds : List (Key × PyData)} : Is K f H v d → IsKd K f H vs ds → IsKd K f H ((k, v) :: vs) ((k, d) :: ds)
def ObAt (K : PySem.W.Frag) (f : Ow) (H : Hp) (a : Addr) : Ob → Prop
  | .lst ds => ∃ vs, H a = some (.lst vs) ∧ IsAll K f H vs ds
  | .dct ds => ∃ kvs, H a = some (.dK kvs) ∧ IsKd K f H kvs ds
structure StoR (K : PySem.W.Frag) (f : Ow) (S : Sto) (H : Hp) : Prop where
  len : f.o.length = S.length
  nd : f.o.Nodup
  at_ : ∀ (i : Nat) (o : Ob) (a : Addr), S[i]? = some o → f.o[i]? = some a → ObAt K f H a o
  dj : ∀ a ∈ f.g, a ∉ f.o
  tr : ∀ a ∈ f.g, ∃ o, H a = some o
def SvR (K : PySem.W.Frag) (f : Ow) (H : Hp) (v : V) : SV → Prop
  | .d x => Is K f H v x
  | .r i => ∃ a, f.o[i]? = some a ∧ v = .ref a
  | .s ns => ∃ a, v = .ref a ∧ LS K f H a (ns.map V.int)
/-- the frame's slots -/
structure EnvR (K : PySem.W.Frag) (f : Ow) (H : Hp) (sv : L2.St) (σ : Sg) : Prop where
  len : sv.length = σ.length
  get : ∀ (i : Nat) (x : SV), σ[i]? = some (some x) → ∃ v, sv[i]? = some (some v) ∧ SvR K f H v x
section
variable {K : PySem.W.Frag} {f f' : Ow} {H H' : Hp}
/-- f' owns first what f owns -/
def Pf (f f' : Ow) : Prop := ∀ (i : Nat) (a : Addr), f.o[i]? = some a → f'.o[i]? = some a
theorem app_get {f ex : List Addr} {i : Nat} {a : Addr} (e : f[i]? = some a) : (f ++ ex)[i]? = some a := by
  rw [List.getElem?_append_left (List.getElem?_eq_some_iff.mp e).1]; exact e
theorem Pf.refl (f : Ow) : Pf f f := fun _ _ e => e
theorem Pf.add (f : Ow) (ex : List Addr) : Pf f (f.add ex) := fun _ _ e => app_get e
theorem Pf.ban (f : Ow) (D : Addr) : Pf f (f.ban D) := fun _ _ e => e
theorem Pf.unban (f : Ow) (D : Addr) : Pf (f.ban D) f := fun _ _ e => e
theorem Pf.trans {f f' f'' : Ow} (a : Pf f f') (b : Pf f' f'') : Pf f f'' := fun i x e => b i x (a i x e)
theorem SvR.keep {v : V} {x : SV} (h : SvR K f H v x) (k : Kq f H H') (g : Gr f f' H) (p : Pf f f') : SvR K f' H' v x := by
  cases x with
  | d x => exact Is.keep k g h
  | r i =>
    obtain ⟨a, e, h⟩ := h
    exact ⟨a, p i a e, h⟩
  | s ns =>
    obtain ⟨a, e, h⟩ := h
    exact ⟨a, e, h.keep k g⟩
theorem SvR.kp {v : V} {x : SV} (h : SvR K f H v x) (k : Kp f H H') : SvR K f H' v x := h.keep k.q (Gr.refl _ _) (Pf.refl _)
theorem EnvR.keep {sv : L2.St} {σ : Sg} (h : EnvR K f H sv σ) (k : Kq f H H') (g : Gr f f' H) (p : Pf f f') : EnvR K f' H' sv σ :=
  ⟨h.len, fun i x e => let ⟨v, e1, r⟩ := h.get i x e; ⟨v, e1, r.keep k g p⟩⟩
theorem EnvR.kp {sv : L2.St} {σ : Sg} (h : EnvR K f H sv σ) (k : Kp f H H') : EnvR K f H' sv σ := h.keep k.q (Gr.refl _ _) (Pf.refl _)
theorem IsKd.keep (k : Kq f H H') (g : Gr f f' H) : ∀ {v : List (Key × V)} {d : List (Key × PyData)}, IsKd K f H v d → IsKd K f' H' v d
  | _, _, .nil => .nil
  | _, _, .cons h r => .cons (Is.keep k g h) (IsKd.keep k g r)
theorem ObAt.keep {a : Addr} {o : Ob} (h : ObAt K f H a o) (e : H' a = H a) (k : Kq f H H') (g : Gr f f' H) : ObAt K f' H' a o := by
  cases o with
  | lst ds =>
    obtain ⟨vs, h1, h2⟩ := h
    exact ⟨vs, e.trans h1, h2.keep k g⟩
  | dct ds =>
    obtain ⟨vs, h1, h2⟩ := h
    exact ⟨vs, e.trans h1, h2.keep k g⟩
/-- an owned address holds something -/
theorem StoR.some_ {S : Sto} (h : StoR K f S H) {a : Addr} (m : a ∈ f.o) : ∃ o, H a = some o := by
  obtain ⟨i, hi, e⟩ := List.getElem_of_mem m
  have e1 : f.o[i]? = some a := by rw [List.getElem?_eq_getElem hi, e]
  have hi2 : i < S.length := h.len ▸ hi
  have q := h.at_ i S[i] a (List.getElem?_eq_getElem hi2) e1
  generalize S[i] = o at q
  cases o with
  | lst ds => obtain ⟨_, z, _⟩ := q; exact ⟨_, z⟩
  | dct ds => obtain ⟨_, z, _⟩ := q; exact ⟨_, z⟩
theorem StoR.free {S : Sto} (h : StoR K f S H) {p : Addr} (n : H p = none) : f.no p := by
  refine ⟨fun m => ?_, fun m => ?_⟩
  · obtain ⟨o, e⟩ := h.some_ m
    rw [n] at e; cases e
  · obtain ⟨o, e⟩ := h.tr p m
    rw [n] at e; cases e
/-- an object is laid that no store owns -/
theorem StoR.laid {S : Sto} (h : StoR K f S H) {p : Addr} {o : HO} (n : H p = none) : StoR K f S (upd H p o) :=
  ⟨h.len, h.nd, fun i ob a e1 e2 => (h.at_ i ob a e1 e2).keep (upd_ne (fun z => (h.free n).1 (z ▸ List.mem_of_getElem? e2))) (Kp.new n).q (Gr.refl _ _), h.dj, fun a m => by
    obtain ⟨x, e⟩ := h.tr a m
    exact ⟨x, Kp.new n a x (h.dj a m) e⟩⟩
/-- .. that the store owns -/
theorem StoR.own {S : Sto} (h : StoR K f S H) {p : Addr} {o : HO} {ob : Ob} (n : H p = none) (q : ObAt K (f.add [p]) (upd H p o) p ob) : StoR K (f.add [p]) (S ++ [ob]) (upd H p o) := by
  have np : ∀ b ∈ [p], H b = none := fun b hb => by
    have e : b = p := by simpa using hb
    rw [e]; exact n
  refine ⟨by simp [Ow.add, h.len], ?_, fun i u a e1 e2 => ?_, fun a m z => ?_, fun a m => ?_⟩
  · refine List.nodup_append.mpr ⟨h.nd, by simp, fun a ha b hb => ?_⟩
    have e : b = p := by simpa using hb
    subst e
    exact fun z => (h.free n).1 (z ▸ ha)
  · have e2 : (f.o ++ [p])[i]? = some a := e2
    by_cases hi : i < f.o.length
    · rw [List.getElem?_append_left hi] at e2
      rw [List.getElem?_append_left (h.len ▸ hi)] at e1
      exact (h.at_ i u a e1 e2).keep (upd_ne (fun z => (h.free n).1 (z ▸ List.mem_of_getElem? e2))) (Kp.new n).q (Gr.app np)
    · rw [List.getElem?_append_right (by omega)] at e2
      rw [List.getElem?_append_right (by rw [← h.len]; omega)] at e1
      have hi2 : i - f.o.length = 0 := by
        have := (List.getElem?_eq_some_iff.mp e2).1
        simp at this
        omega
      rw [hi2] at e2
      rw [← h.len, hi2] at e1
      simp at e1 e2
      subst e1 e2
      exact q
  · rcases List.mem_append.mp z with z | z
    · exact h.dj a m z
    · have e : a = p := by simpa using z
      exact (h.free n).2 (e ▸ m)
  · obtain ⟨x, e⟩ := h.tr a m
    exact ⟨x, Kp.new n a x (h.dj a m) e⟩
/-- an owned object is changed -/
theorem StoR.put {S : Sto} (h : StoR K f S H) {i : Nat} {p : Addr} {o : HO} {ob : Ob} (e : f.o[i]? = some p) (q : ObAt K f (upd H p o) p ob) : StoR K f (S.set i ob) (upd H p o) := by
  have kp : Kp f H (upd H p o) := fun b x nb eb => by
    have hb : b ≠ p := fun z => nb (by rw [z]; exact List.mem_of_getElem? e)
    rw [upd_ne hb]
    exact eb
  refine ⟨by simp [h.len], h.nd, fun j u a e1 e2 => ?_, h.dj, fun a m => let ⟨x, ex⟩ := h.tr a m; ⟨x, kp a x (h.dj a m) ex⟩⟩
  by_cases hj : i = j
  · subst hj
    rw [e] at e2; cases e2
    have hi : i < S.length := h.len ▸ (List.getElem?_eq_some_iff.mp e).1
    rw [List.getElem?_set_self hi] at e1
    cases e1
    exact q
  · rw [List.getElem?_set_ne hj] at e1
    have hne : a ≠ p := fun z => hj (nd_ix h.nd e (z ▸ e2))
    exact (h.at_ j u a e1 e2).keep (upd_ne hne) kp.q (Gr.refl _ _)
theorem Kp.put {i : Nat} {p : Addr} {o : HO} (e : f.o[i]? = some p) : Kp f H (upd H p o) := fun b x nb eb => by
  have hb : b ≠ p := fun z => nb (by rw [z]; exact List.mem_of_getElem? e)
  rw [upd_ne hb]; exact eb
/-- a banned object is changed: nobody looks -/
theorem StoR.sly {S : Sto} {D : Addr} {x y : HO} (h : StoR K (f.ban D) S H) (e : H D = some x) : StoR K (f.ban D) S (upd H D y) := by
  have hD : D ∉ f.o := h.dj D List.mem_cons_self
  have kq : Kq (f.ban D) H (upd H D y) := fun a o n ea => by
    have ne : a ≠ D := fun z => n.2 (by rw [z]; exact List.mem_cons_self)
    rw [upd_ne ne]; exact ea
  refine ⟨h.len, h.nd, fun i ob a e1 e2 => (h.at_ i ob a e1 e2).keep (upd_ne fun z => hD (z ▸ List.mem_of_getElem? e2)) kq (Gr.refl _ _), h.dj, fun a m => ?_⟩
  by_cases ha : a = D
  · subst ha; exact ⟨y, upd_same⟩
  · obtain ⟨z, ez⟩ := h.tr a m
    exact ⟨z, by rw [upd_ne ha]; exact ez⟩
theorem Kq.sly {D : Addr} {y : HO} : Kq (f.ban D) H (upd H D y) := fun a o n ea => by
  have ne : a ≠ D := fun z => n.2 (by rw [z]; exact List.mem_cons_self)
  rw [upd_ne ne]; exact ea
/-- a new object is banned -/
theorem StoR.ban {S : Sto} {D : Addr} {x : HO} (h : StoR K f S H) (n : H D = none) : StoR K (f.ban D) S (upd H D x) := by
  refine ⟨h.len, h.nd, fun i ob a e1 e2 => (h.at_ i ob a e1 e2).keep (upd_ne (fun z => (h.free n).1 (z ▸ List.mem_of_getElem? e2))) (Kp.new n).q (Gr.ban n), fun a m z => ?_, fun a m => ?_⟩
  · rcases List.mem_cons.mp m with m | m
    · exact (h.free n).1 (m ▸ z)
    · exact h.dj a m z
  · rcases List.mem_cons.mp m with m | m
    · subst m; exact ⟨x, upd_same⟩
    · obtain ⟨z, e⟩ := h.tr a m
      exact ⟨z, Kp.new (f := f) n a z (h.dj a m) e⟩
theorem StoR.unban {S : Sto} {D : Addr} (h : StoR K (f.ban D) S H) : StoR K f S H :=
  ⟨h.len, h.nd, fun i ob a e1 e2 => (h.at_ i ob a e1 e2).keep rfl (Kq.refl _ _) Gr.unban, fun a m => h.dj a (List.mem_cons_of_mem _ m), fun a m => h.tr a (List.mem_cons_of_mem _ m)⟩
theorem StoR.has {S : Sto} (h : StoR K f S H) {i : Nat} {o : Ob} (e1 : S[i]? = some o) : ∃ a, f.o[i]? = some a := by
  have hi : i < f.o.length := h.len ▸ (List.getElem?_eq_some_iff.mp e1).1
  exact ⟨f.o[i], List.getElem?_eq_getElem hi⟩
/-- the store's end is given up -/
theorem StoR.cut {S : Sto} {ex : List Addr} (h : StoR K (f.add ex) S H) : StoR K f (S.take f.o.length) H := by
  have hl : f.o.length ≤ S.length := by rw [← h.len]; simp [Ow.add]
  refine ⟨by simp [hl], (List.nodup_append.mp h.nd).1, fun i o a e1 e2 => ?_, fun a m z => h.dj a m (List.mem_append_left _ z), h.tr⟩
  have hi := (List.getElem?_eq_some_iff.mp e2).1
  rw [List.getElem?_take_of_lt hi] at e1
  exact (h.at_ i o a e1 (app_get e2)).keep rfl (Kq.refl _ _) Gr.sub
/-- .. but for one object of it -/
theorem StoR.cut1 {S : Sto} {ex : List Addr} {i : Nat} {o : Ob} {p : Addr} (h : StoR K (f.add ex) S H) (e : S[i]? = some o) (ep : (f.o ++ ex)[i]? = some p) (hi : f.o.length ≤ i) : StoR K (f.add [p]) (S.take f.o.length ++ [o]) H := by
  have c := h.cut
  have hp : p ∈ ex := by
    rw [List.getElem?_append_right hi] at ep
    exact List.mem_of_getElem? ep
  have gr : Gr (f.add ex) (f.add [p]) H := fun a x n _ => ⟨fun m => by
    rcases List.mem_append.mp m with m | m
    · exact n.1 (List.mem_append_left _ m)
    · have e' : a = p := by simpa using m
      exact n.1 (List.mem_append_right _ (e' ▸ hp)), n.2⟩
  have hl : f.o.length ≤ S.length := by rw [← h.len]; simp [Ow.add]
  refine ⟨by simp [Ow.add, hl], ?_, fun j u a e1 e2 => ?_, fun a m z => ?_, h.tr⟩
  · refine List.nodup_append.mpr ⟨c.nd, by simp, fun a ha b hb => ?_⟩
    have e' : b = p := by simpa using hb
    subst e'
    exact fun z => (List.nodup_append.mp h.nd).2.2 a ha b hp z
  · have e2 : (f.o ++ [p])[j]? = some a := e2
    by_cases hj : j < f.o.length
    · rw [List.getElem?_append_left hj] at e2
      rw [List.getElem?_append_left (by rw [List.length_take]; omega), List.getElem?_take_of_lt hj] at e1
      exact (h.at_ j u a e1 (app_get e2)).keep rfl (Kq.refl _ _) gr
    · rw [List.getElem?_append_right (by omega)] at e2
      rw [List.getElem?_append_right (by rw [List.length_take]; omega)] at e1
      have hz : j - f.o.length = 0 := by
        have := (List.getElem?_eq_some_iff.mp e2).1
        simp at this
        omega
      rw [hz] at e2
      rw [List.length_take, show j - min f.o.length S.length = 0 by omega] at e1
      simp at e1 e2
      subst e1 e2
      exact (h.at_ i _ _ e ep).keep rfl (Kq.refl _ _) gr
  · rcases List.mem_append.mp z with z | z
    · exact h.dj a m (List.mem_append_left _ z)
    · have e' : a = p := by simpa using z
      exact h.dj a m (List.mem_append_right _ (e' ▸ hp))
end
end Z
set_option maxRecDepth 100000
namespace Z
open PySem PySem.Spec PyProof.Rows L2

/-! ## what a piece of a program yields -/
/-- an exception: its class by name, what it keeps -/
structure Exn where
  cls : Str
  fld : Option (Str × PyData)
inductive Res (α : Type) where
  | ok (a : α) (S : Sto)
  | exc (x : Exn) (S : Sto)
abbrev Ex := Sg → Sto → Option (Res SV)
abbrev Exs := Sg → Sto → Option (Res (List SV))
/-- a test -/
abbrev Tst := Sg → Sto → Option (Res Bool)
/-- an expression that makes a new list or dict -/
abbrev Nw := Sg → Sto → Option (Res Ob)

/-- how an exception stands in the heap -/
def ExR (K : PySem.W.Frag) (mg : Str → Option Value) (f : Ow) (H : Hp) (cls : Value) (d : Option Addr) (x : Exn) : Prop :=
  mg x.cls = some cls ∧ match x.fld with
    | none => True
    | some (n, dd) => ∃ da v, d = some da ∧ H da = some (.xd [(n, v)]) ∧ f.no da ∧ Is K f H v dd

/-- a context in which all this is said -/
structure Gd (X : Cx) (W : WX) (k : Nat) : Prop where
  hr : Room k X.A
  gd : X.A.guards = some []
  calm : X.calm = true
  nd : X.N.Nodup
  tk : Takes X W
  po : PassesOwn (model X.prog X.w) X.A X.env X.xe
theorem Gd.mono {X : Cx} {W : WX} {j k : Nat} (g : Gd X W k) (h : j ≤ k) : Gd X W j := ⟨g.hr.mono h, g.gd, g.calm, g.nd, g.tk, g.po⟩

/-! ### readings -/
def XS (X : Cx) (W : WX) (f : Ow) (σV : L2.St) (H : Hp) (x : Exn) (S' : Sto) : Prop :=
  ∀ (cls : Value) (d : Option Addr) (H' : Hp), StoR X.K f S' H' → Kp f H H' → ExR X.K X.mg f H' cls d x → W cls d σV H'
def TX (X : Cx) (W : WX) (e : Ex) : TE := fun σV H Q => ∃ (f : Ow) (σ : Sg) (S : Sto) (r : Res SV), EnvR X.K f H σV σ ∧ StoR X.K f S H ∧ e σ S = some r ∧
  match r with
  | .ok sv S' => ∀ (v : V) (H' : Hp), StoR X.K f S' H' → Kp f H H' → SvR X.K f H' v sv → Q v H'
  | .exc x S' => XS X W f σV H x S'
def TXs (X : Cx) (W : WX) (e : Exs) : TA := fun σV H Q => ∃ (f : Ow) (σ : Sg) (S : Sto) (r : Res (List SV)), EnvR X.K f H σV σ ∧ StoR X.K f S H ∧ e σ S = some r ∧
  match r with
  | .ok sv S' => ∀ (v : List V) (H' : Hp), StoR X.K f S' H' → Kp f H H' → Paired (SvR X.K f H') v sv → Q v H'
  | .exc x S' => XS X W f σV H x S'
def TT_ (X : Cx) (W : WX) (e : Tst) : TT := fun σV H Q => ∃ (f : Ow) (σ : Sg) (S : Sto) (r : Res Bool), EnvR X.K f H σV σ ∧ StoR X.K f S H ∧ e σ S = some r ∧
  match r with
  | .ok b S' => ∀ (H' : Hp), StoR X.K f S' H' → Kp f H H' → Q b H'
  | .exc x S' => XS X W f σV H x S'
/-- a new list, its address the store's from now on -/
def TN (X : Cx) (W : WX) (e : Nw) : TE := fun σV H Q => ∃ (f : Ow) (σ : Sg) (S : Sto) (r : Res Ob), EnvR X.K f H σV σ ∧ StoR X.K f S H ∧ e σ S = some r ∧
  match r with
  | .ok ob S' => ∀ (p : Addr) (H' : Hp), H p = none → StoR X.K (f.add [p]) (S' ++ [ob]) H' → Kp f H H' → Q (.ref p) H'
  | .exc x S' => XS X W f σV H x S'
/-- e means f -/
def DE (X : Cx) (W : WX) (e : Expr) (f : Ex) : Prop := PE X e (TX X W f)
def DA (X : Cx) (W : WX) (e : List Expr) (f : Exs) : Prop := PA X e (TXs X W f)
def DT (X : Cx) (W : WX) (e : Expr) (f : Tst) : Prop := PT X e (TT_ X W f)
def DN (X : Cx) (W : WX) (e : Expr) (f : Nw) : Prop := PE X e (TN X W f)

/-! ### statements -/
inductive Flow where
  | nx (σ : Sg) (S : Sto)
  | rt (v : SV) (S : Sto)
  | bk (σ : Sg) (S : Sto)
  | ct (σ : Sg) (S : Sto)
  | exc (x : Exn) (S : Sto)
abbrev Sm := Sg → Sto → Option Flow
/-- a state that is reached: the store may have grown -/
def ReS (X : Cx) (f : Ow) (H : Hp) (σ' : Sg) (S' : Sto) (P : L2.St → Hp → Prop) : Prop :=
  ∀ (ex : List Addr) (σV : L2.St) (H' : Hp), (∀ a ∈ ex, H a = none) → StoR X.K (f.add ex) S' H' → Kp f H H' → EnvR X.K (f.add ex) H' σV σ' → P σV H'
def ReV (X : Cx) (f : Ow) (H : Hp) (v : SV) (S' : Sto) (P : V → Hp → Prop) : Prop :=
  ∀ (ex : List Addr) (u : V) (H' : Hp), (∀ a ∈ ex, H a = none) → StoR X.K (f.add ex) S' H' → Kp f H H' → SvR X.K (f.add ex) H' u v → P u H'
def ReX (X : Cx) (W : WX) (f : Ow) (H : Hp) (x : Exn) (S' : Sto) : Prop :=
  ∀ (ex : List Addr) (cls : Value) (d : Option Addr) (σV : L2.St) (H' : Hp), (∀ a ∈ ex, H a = none) → StoR X.K (f.add ex) S' H' → Kp f H H' → ExR X.K X.mg (f.add ex) H' cls d x → W cls d σV H'
def Fl (X : Cx) (W : WX) (f : Ow) (H : Hp) (D : Ends) : Flow → Prop
  | .nx σ' S' => ReS X f H σ' S' D.nx
  | .rt v S' => ReV X f H v S' D.rt
  | .bk σ' S' => ReS X f H σ' S' D.bk
  | .ct σ' S' => ReS X f H σ' S' D.ct
  | .exc x S' => ReX X W f H x S'
def TS_ (X : Cx) (W : WX) (m : Sm) : TS := fun D σV H => ∃ (f : Ow) (σ : Sg) (S : Sto) (r : Flow), EnvR X.K f H σV σ ∧ StoR X.K f S H ∧ m σ S = some r ∧ Fl X W f H D r
def DS (X : Cx) (W : WX) (st : Stmt) (m : Sm) : Prop := PS X st (TS_ X W m)
def DB (X : Cx) (W : WX) (st : List Stmt) (m : Sm) : Prop := PSs X st (TS_ X W m)

/-! ### glue -/
theorem fresh_app {X : Cx} {f : Ow} {ex ex' : List Addr} {S' : Sto} {H H1 : Hp} (n1 : ∀ a ∈ ex, H a = none) (s1 : StoR X.K (f.add ex) S' H1) (k1 : Kp f H H1) (sH : ∀ a ∈ f.o, ∃ o, H1 a = some o) (n2 : ∀ a ∈ ex', H1 a = none) : ∀ a ∈ ex ++ ex', H a = none := fun a m => by
  rcases List.mem_append.mp m with m | m
  · exact n1 a m
  · have z := n2 a m
    cases e : H a with
    | none => rfl
    | some o =>
      by_cases hf : a ∈ f.o
      · obtain ⟨o', e'⟩ := sH a hf
        rw [z] at e'; cases e'
      · rw [k1 a o hf e] at z; cases z
theorem Kp.more {f : Ow} {ex : List Addr} {H H1 H2 : Hp} (n1 : ∀ a ∈ ex, H a = none) (k1 : Kp f H H1) (k2 : Kp (f.add ex) H1 H2) : Kp f H H2 := fun a o n e => by
  refine k2 a o (fun m => ?_) (k1 a o n e)
  rcases List.mem_append.mp m with m | m
  · exact n m
  · rw [n1 a m] at e; cases e
theorem StoR.all {K : PySem.W.Frag} {f : Ow} {ex : List Addr} {S : Sto} {H : Hp} (h : StoR K (f.add ex) S H) : ∀ a ∈ f.o, ∃ o, H a = some o := fun a m => h.some_ (List.mem_append_left _ m)
theorem ReS.step {X : Cx} {f : Ow} {ex : List Addr} {H H1 : Hp} {σ' : Sg} {S1 S' : Sto} {P : L2.St → Hp → Prop} (h : ReS X f H σ' S' P) (n1 : ∀ a ∈ ex, H a = none) (s1 : StoR X.K (f.add ex) S1 H1) (k1 : Kp f H H1) : ReS X (f.add ex) H1 σ' S' P :=
  fun ex' σV H' n2 s2 k2 e2 => h (ex ++ ex') σV H' (fresh_app n1 s1 k1 s1.all n2) (by rw [← Ow.add_add]; exact s2) (Kp.more n1 k1 k2) (by rw [← Ow.add_add]; exact e2)
theorem ReV.step {X : Cx} {f : Ow} {ex : List Addr} {H H1 : Hp} {σ' : SV} {S1 S' : Sto} {P : V → Hp → Prop} (h : ReV X f H σ' S' P) (n1 : ∀ a ∈ ex, H a = none) (s1 : StoR X.K (f.add ex) S1 H1) (k1 : Kp f H H1) : ReV X (f.add ex) H1 σ' S' P :=
  fun ex' σV H' n2 s2 k2 e2 => h (ex ++ ex') σV H' (fresh_app n1 s1 k1 s1.all n2) (by rw [← Ow.add_add]; exact s2) (Kp.more n1 k1 k2) (by rw [← Ow.add_add]; exact e2)
theorem ReX.step {X : Cx} {W : WX} {f : Ow} {ex : List Addr} {H H1 : Hp} {x : Exn} {S1 S' : Sto} (h : ReX X W f H x S') (n1 : ∀ a ∈ ex, H a = none) (s1 : StoR X.K (f.add ex) S1 H1) (k1 : Kp f H H1) : ReX X W (f.add ex) H1 x S' :=
  fun ex' cls d σV H' n2 s2 k2 e2 => h (ex ++ ex') cls d σV H' (fresh_app n1 s1 k1 s1.all n2) (by rw [← Ow.add_add]; exact s2) (Kp.more n1 k1 k2) (by rw [← Ow.add_add]; exact e2)
theorem Fl.step {X : Cx} {W : WX} {f : Ow} {ex : List Addr} {H H1 : Hp} {S1 : Sto} {D : Ends} {r : Flow} (h : Fl X W f H D r) (n1 : ∀ a ∈ ex, H a = none) (s1 : StoR X.K (f.add ex) S1 H1) (k1 : Kp f H H1) : Fl X W (f.add ex) H1 D r := by
  cases r with
  | nx => exact ReS.step h n1 s1 k1
  | rt => exact ReV.step h n1 s1 k1
  | bk => exact ReS.step h n1 s1 k1
  | ct => exact ReS.step h n1 s1 k1
  | exc => exact ReX.step h n1 s1 k1
/-- the same where the store has not grown -/
theorem Fl.kp {X : Cx} {W : WX} {f : Ow} {H H1 : Hp} {S1 : Sto} {D : Ends} {r : Flow} (h : Fl X W f H D r) (s1 : StoR X.K f S1 H1) (k1 : Kp f H H1) : Fl X W f H1 D r := by
  have q := Fl.step (ex := []) h (fun _ z => nomatch z) (by rw [Ow.add_nil]; exact s1) k1
  rw [Ow.add_nil] at q
  exact q
theorem XS.kp {X : Cx} {W : WX} {f : Ow} {σV : L2.St} {H H1 : Hp} {x : Exn} {S' : Sto} (h : XS X W f σV H x S') (k1 : Kp f H H1) : XS X W f σV H1 x S' :=
  fun cls d H' s k e => h cls d H' s (k1.trans k) e
/-- an exception of an expression, as a statement's -/
theorem XS.of {X : Cx} {W : WX} {f : Ow} {σV : L2.St} {H : Hp} {x : Exn} {S' : Sto} (h : ReX X W f H x S') : XS X W f σV H x S' :=
  fun cls d H' s k e => h [] cls d σV H' (fun _ z => nomatch z) (by rw [Ow.add_nil]; exact s) k (by rw [Ow.add_nil]; exact e)

/-! ### combining expressions -/
def Res.bnd {α β : Type} (r : Option (Res α)) (k : α → Sto → Option (Res β)) : Option (Res β) :=
  match r with
  | some (.ok a S) => k a S
  | some (.exc x S) => some (.exc x S)
  | none => none
theorem bnd_congr {α β : Type} {r r' : Option (Res α)} {k : α → Sto → Option (Res β)} (h : r = r') : Res.bnd r k = Res.bnd r' k := by rw [h]
@[simp] theorem bnd_ok {α β : Type} {a : α} {S : Sto} {k : α → Sto → Option (Res β)} : Res.bnd (some (.ok a S)) k = k a S := rfl
@[simp] theorem bnd_exc {α β : Type} {x : Exn} {S : Sto} {k : α → Sto → Option (Res β)} : Res.bnd (some (.exc x S) : Option (Res α)) k = some (.exc x S) := rfl
@[simp] theorem bnd_none {α β : Type} {k : α → Sto → Option (Res β)} : Res.bnd (none : Option (Res α)) k = none := rfl

section
variable {X : Cx} {W : WX} {k : Nat}
/-- what a part yields is what it is asked: the first part of a bind -/
theorem TX.first {β : Type} {e : Ex} {g : SV → Sto → Option (Res β)} {f : Ow} {σ : Sg} {S : Sto} {σV : L2.St} {H : Hp} {r : Res β} {Q : VK} (hE : EnvR X.K f H σV σ) (hS : StoR X.K f S H) (h : Res.bnd (e σ S) g = some r)
    (hx : ∀ x S', r = .exc x S' → XS X W f σV H x S')
    (hk : ∀ (sv : SV) (S1 : Sto) (v : V) (H1 : Hp), e σ S = some (.ok sv S1) → g sv S1 = some r → StoR X.K f S1 H1 → Kp f H H1 → EnvR X.K f H1 σV σ → SvR X.K f H1 v sv → Q v H1) : TX X W e σV H Q := by
  cases e1 : e σ S with
  | none => rw [e1] at h; cases h
  | some q =>
    rw [e1] at h
    refine ⟨f, σ, S, q, hE, hS, e1, ?_⟩
    cases q with
    | ok sv S1 => exact fun v H1 s1 k1 r1 => hk sv S1 v H1 e1 h s1 k1 (hE.kp k1) r1
    | exc x S1 => exact hx x S1 (Option.some.inj h).symm
theorem TXs.first {β : Type} {e : Exs} {g : List SV → Sto → Option (Res β)} {f : Ow} {σ : Sg} {S : Sto} {σV : L2.St} {H : Hp} {r : Res β} {Q : List V → Hp → Prop} (hE : EnvR X.K f H σV σ) (hS : StoR X.K f S H) (h : Res.bnd (e σ S) g = some r)
    (hx : ∀ x S', r = .exc x S' → XS X W f σV H x S')
    (hk : ∀ (sv : List SV) (S1 : Sto) (v : List V) (H1 : Hp), e σ S = some (.ok sv S1) → g sv S1 = some r → StoR X.K f S1 H1 → Kp f H H1 → EnvR X.K f H1 σV σ → Paired (SvR X.K f H1) v sv → Q v H1) : TXs X W e σV H Q := by
  cases e1 : e σ S with
  | none => rw [e1] at h; cases h
  | some q =>
    rw [e1] at h
    refine ⟨f, σ, S, q, hE, hS, e1, ?_⟩
    cases q with
    | ok sv S1 => exact fun v H1 s1 k1 r1 => hk sv S1 v H1 e1 h s1 k1 (hE.kp k1) r1
    | exc x S1 => exact hx x S1 (Option.some.inj h).symm
theorem TT_.first {β : Type} {e : Tst} {g : Bool → Sto → Option (Res β)} {f : Ow} {σ : Sg} {S : Sto} {σV : L2.St} {H : Hp} {r : Res β} {Q : Bool → Hp → Prop} (hE : EnvR X.K f H σV σ) (hS : StoR X.K f S H) (h : Res.bnd (e σ S) g = some r)
    (hx : ∀ x S', r = .exc x S' → XS X W f σV H x S')
    (hk : ∀ (b : Bool) (S1 : Sto) (H1 : Hp), e σ S = some (.ok b S1) → g b S1 = some r → StoR X.K f S1 H1 → Kp f H H1 → EnvR X.K f H1 σV σ → Q b H1) : TT_ X W e σV H Q := by
  cases e1 : e σ S with
  | none => rw [e1] at h; cases h
  | some q =>
    rw [e1] at h
    refine ⟨f, σ, S, q, hE, hS, e1, ?_⟩
    cases q with
    | ok sv S1 => exact fun H1 s1 k1 => hk sv S1 H1 e1 h s1 k1 (hE.kp k1)
    | exc x S1 => exact hx x S1 (Option.some.inj h).symm
/-- the end of a reading: the exception's way, shifted -/
theorem exc_way {f : Ow} {σV : L2.St} {H : Hp} {r : Res SV} {Q : VK} (h : match r with | .ok sv S' => ∀ (v : V) (H' : Hp), StoR X.K f S' H' → Kp f H H' → SvR X.K f H' v sv → Q v H' | .exc x S' => XS X W f σV H x S') :
    ∀ x S', r = .exc x S' → XS X W f σV H x S' := fun x S' e => by
  subst e; exact h
end
end Z
set_option maxRecDepth 100000
namespace Z
open PySem PySem.Spec PyProof.Rows L2

/-! ## rules for expressions -/
theorem pe_imp {X : Cx} {e : Expr} {t t' : TE} (h : PE X e t) (i : ∀ σ H Q, t' σ H Q → t σ H Q) : PE X e t' := ⟨fun pins s σ H Q I q => h.run pins s σ H Q I (i σ H Q q)⟩
theorem pa_imp {X : Cx} {e : List Expr} {t t' : TA} (h : PA X e t) (i : ∀ σ H Q, t' σ H Q → t σ H Q) : PA X e t' := ⟨fun pos pins s σ H Q I q => h.run pos pins s σ H Q I (i σ H Q q)⟩
theorem pt_imp {X : Cx} {e : Expr} {t t' : TT} (h : PT X e t) (i : ∀ σ H Q, t' σ H Q → t σ H Q) : PT X e t' := ⟨fun pins s σ H Q I q => h.run pins s σ H Q I (i σ H Q q)⟩
theorem pw_imp {X : Cx} {e : Expr} {t t' : TT} (h : PW X e t) (i : ∀ σ H Q, t' σ H Q → t σ H Q) : PW X e t' := ⟨fun wh pins s σ H Q I q => h.run wh pins s σ H Q I (i σ H Q q)⟩

@[simp] def eVar (i : Nat) (σ : Sg) (S : Sto) : Option (Res SV) := match σ[i]? with
  | some (some v) => some (.ok v S)
  | _ => none
@[simp] def eLit (d : PyData) (_ : Sg) (S : Sto) : Option (Res SV) := some (.ok (.d d) S)
@[simp] def eBin (p : SV → SV → Sto → Option SV) (a b : Ex) (σ : Sg) (S : Sto) : Option (Res SV) := Res.bnd (a σ S) fun x S1 => Res.bnd (b σ S1) fun y S2 => (p x y S2).map fun z => .ok z S2
@[simp] def eUn (p : SV → Sto → Option SV) (a : Ex) (σ : Sg) (S : Sto) : Option (Res SV) := Res.bnd (a σ S) fun x S1 => (p x S1).map fun z => .ok z S1
@[simp] def eAnd (a b : Ex) (σ : Sg) (S : Sto) : Option (Res SV) := Res.bnd (a σ S) fun x S1 => match x with
  | .d (.bool c) => if c = true then b σ S1 else some (.ok (.d (.bool false)) S1)
  | _ => none
@[simp] def eOr (a b : Ex) (σ : Sg) (S : Sto) : Option (Res SV) := Res.bnd (a σ S) fun x S1 => match x with
  | .d (.bool c) => if c = true then some (.ok (.d (.bool true)) S1) else b σ S1
  | _ => none
@[simp] def eIf (c : Tst) (a b : Ex) (σ : Sg) (S : Sto) : Option (Res SV) := Res.bnd (c σ S) fun x S1 => if x = true then a σ S1 else b σ S1
@[simp] def eChain (p p' : SV → SV → Sto → Option SV) (a b c : Ex) (σ : Sg) (S : Sto) : Option (Res SV) := Res.bnd (a σ S) fun x S1 => Res.bnd (b σ S1) fun y S2 => match p x y S2 with
  | some (.d (.bool true)) => Res.bnd (c σ S2) fun z S3 => (p' y z S3).map fun u => .ok u S3
  | some (.d (.bool false)) => some (.ok (.d (.bool false)) S2)
  | _ => none
@[simp] def tVal (a : Ex) (σ : Sg) (S : Sto) : Option (Res Bool) := Res.bnd (a σ S) fun x S1 => match x with
  | .d (.bool c) => some (.ok c S1)
  | _ => none
@[simp] def tNt (a : Tst) (σ : Sg) (S : Sto) : Option (Res Bool) := Res.bnd (a σ S) fun x S1 => some (.ok (!x) S1)
@[simp] def tAd (a b : Tst) (σ : Sg) (S : Sto) : Option (Res Bool) := Res.bnd (a σ S) fun x S1 => if x = true then b σ S1 else some (.ok false S1)
@[simp] def tOr_ (a b : Tst) (σ : Sg) (S : Sto) : Option (Res Bool) := Res.bnd (a σ S) fun x S1 => if x = true then some (.ok true S1) else b σ S1
@[simp] def esNil (_ : Sg) (S : Sto) : Option (Res (List SV)) := some (.ok [] S)
@[simp] def esCons (a : Ex) (r : Exs) (σ : Sg) (S : Sto) : Option (Res (List SV)) := Res.bnd (a σ S) fun x S1 => Res.bnd (r σ S1) fun xs S2 => some (.ok (x :: xs) S2)

/-- what an operator's reading asks is there -/
def OpK (X : Cx) (r : R2) (p : SV → SV → Sto → Option SV) : Prop := ∀ (f : Ow) (S : Sto) (H : Hp) (vx vy : V) (x y z : SV) (Q : VK), StoR X.K f S H → SvR X.K f H vx x → SvR X.K f H vy y → p x y S = some z →
  (∀ (v : V) (H' : Hp), StoR X.K f S H' → Kp f H H' → SvR X.K f H' v z → Q v H') → r vx vy H Q
def UnK (X : Cx) (r : V → Hp → VK → Prop) (p : SV → Sto → Option SV) : Prop := ∀ (f : Ow) (S : Sto) (H : Hp) (vx : V) (x z : SV) (Q : VK), StoR X.K f S H → SvR X.K f H vx x → p x S = some z →
  (∀ (v : V) (H' : Hp), StoR X.K f S H' → Kp f H H' → SvR X.K f H' v z → Q v H') → r vx H Q
/-- a call of something built in: it hands back a value -/
def CaK (X : Cx) (r : List V → Hp → VK → Prop) (p : List SV → Sto → Option SV) : Prop := ∀ (f : Ow) (S : Sto) (H : Hp) (vs : List V) (xs : List SV) (z : SV) (Q : VK), StoR X.K f S H → Paired (SvR X.K f H) vs xs → p xs S = some z →
  (∀ (v : V) (H' : Hp), StoR X.K f S H' → Kp f H H' → SvR X.K f H' v z → Q v H') → r vs H Q

section
variable {X : Cx} {W : WX} {a b c : Expr} {ea eb ec : Ex} {pos : Pos}
theorem de_var (i : Nat) {x : Str} (hN : X.N[i]? = some x := by rfl) (hv : Vis X.env.scope x := by first | exact Or.inl rfl | exact Or.inr (Or.inl rfl) | exact Or.inr (Or.inr rfl)) (hd : (x == ("__debug__" : Str)) = false := by decide)
    (hcd : (x == ("__classdict__" : Str)) = false := by decide) : DE X W (.Name x pos) (eVar i) := by
  refine pe_imp (pv i hN hv hd hcd) fun σV H Q ⟨f, σ, S, r, hE, hS, he, hq⟩ => ?_
  unfold eVar at he
  split at he
  · rename_i v e
    cases he
    obtain ⟨u, e1, r1⟩ := hE.get i v e
    exact ⟨u, e1, hq u H hS (Kp.refl _ _) r1⟩
  · cases he
theorem de_int {i j} : DE X W (.Constant (.int i) j pos) (eLit (.int i)) := pe_imp pe_int fun σV H Q ⟨f, σ, S, r, hE, hS, he, hq⟩ => by
  cases he
  exact hq _ H hS (Kp.refl _ _) (Is.int i)
theorem de_bl {b j} : DE X W (.Constant (.bool b) j pos) (eLit (.bool b)) := pe_imp pe_bl fun σV H Q ⟨f, σ, S, r, hE, hS, he, hq⟩ => by
  cases he
  exact hq _ H hS (Kp.refl _ _) (Is.bl b)
theorem de_non {j} : DE X W (.Constant .none j pos) (eLit .none) := pe_imp pe_non fun σV H Q ⟨f, σ, S, r, hE, hS, he, hq⟩ => by
  cases he
  exact hq _ H hS (Kp.refl _ _) Is.non
theorem de_str {x j} : DE X W (.Constant (.str x) j pos) (eLit (.str x)) := pe_imp pe_str fun σV H Q ⟨f, σ, S, r, hE, hS, he, hq⟩ => by
  cases he
  exact hq _ H hS (Kp.refl _ _) (Is.str x)
/-- a constant of the module -/
theorem de_glob {x : Str} {v : V} {u : Value} {d : PyData} (hg : Gl X x) (hm : X.mg x = some u) (r : RelV v u) (i : ∀ f H, Is X.K f H v d) (hd : (x == ("__debug__" : Str)) = false := by decide) : DE X W (.Name x pos) (eLit d) :=
  pe_imp (pe_glob hg hm r hd) fun σV H Q ⟨f, σ, S, r, hE, hS, he, hq⟩ => by
    cases he
    exact hq _ H hS (Kp.refl _ _) (i f H)

/-- two parts in a row, then what is made of them -/
theorem two {p : SV → SV → Sto → Option SV} {r : R2} (hk : OpK X r p) {σV : L2.St} {H : Hp} {Q : VK} (h : TX X W (eBin p ea eb) σV H Q) : tOp r (TX X W ea) (TX X W eb) σV H Q := by
  obtain ⟨f, σ, S, r, hE, hS, he, hq⟩ := h
  have hx := exc_way hq
  refine TX.first hE hS he hx fun x S1 vx H1 _ h1 s1 k1 e1 r1 => ?_
  refine TX.first e1 s1 h1 (fun y S' e => (hx y S' e).kp k1) fun y S2 vy H2 _ h2 s2 k2 e2 r2 => ?_
  cases hp : p x y S2 with
  | none => rw [hp] at h2; cases h2
  | some z =>
    rw [hp] at h2
    cases h2
    exact hk f S2 H2 vx vy x y z Q s2 (r1.kp k2) r2 hp fun v H' s' k' r' => hq v H' s' ((k1.trans k2).trans k') r'
theorem de_bin {op : Operator} {r : R2} {p : SV → SV → Sto → Option SV} (ho : OpR X (binaryOp op) r) (hk : OpK X r p) (ha : DE X W a ea) (hb : DE X W b eb) : DE X W (.BinOp a op b pos) (eBin p ea eb) :=
  pe_imp (pe_op ho ha hb) fun _ _ _ h => two hk h
theorem de_cmp {op : CmpOp} {r : R2} {p : SV → SV → Sto → Option SV} (ho : OpR X (compareOp op) r) (hk : OpK X r p) (ha : DE X W a ea) (hb : DE X W b eb) (hm : behindInMarks op b = false) : DE X W (.Compare a [op] [b] pos) (eBin p ea eb) :=
  pe_imp (pe_cmpR ho ha hb hm) fun _ _ _ h => two hk h
theorem dt_cmp {op : CmpOp} {r : R2} {p : SV → SV → Sto → Option SV} (ho : OpR X (compareOp op) r) (hk : OpK X r p) (ha : DE X W a ea) (hb : DE X W b eb) (hm : behindInMarks op b = false) : DT X W (.Compare a [op] [b] pos) (tVal (eBin p ea eb)) :=
  pt_imp (pt_cmpR ho ha hb hm) fun σV H Q ⟨f, σ, S, r, hE, hS, he, hq⟩ => by
    unfold tVal at he
    show tOp _ _ _ σV H _
    refine two hk ?_
    refine TX.first hE hS he (fun x S' e => by subst e; exact hq) fun x S1 vx H1 _ h1 s1 k1 e1 r1 => ?_
    split at h1
    · cases h1
      cases r1
      exact ⟨_, rfl, hq _ s1 k1⟩
    · cases h1
theorem de_un {op : UnaryOp} {r : V → Hp → VK → Prop} {p : SV → Sto → Option SV} (ho : UnR X (unaryOp op) r) (hk : UnK X r p) (ha : DE X W a ea) : DE X W (.UnaryOp op a pos) (eUn p ea) :=
  pe_imp (pe_un ho ha) fun σV H Q ⟨f, σ, S, r, hE, hS, he, hq⟩ => by
    have hx := exc_way hq
    refine TX.first hE hS he hx fun x S1 vx H1 _ h1 s1 k1 e1 r1 => ?_
    cases hp : p x S1 with
    | none => rw [hp] at h1; cases h1
    | some z =>
      rw [hp] at h1
      cases h1
      exact hk f S1 H1 vx x z Q s1 r1 hp fun v H' s' k' r' => hq v H' s' (k1.trans k') r'
theorem de_one {op} (h : DE X W a ea) : DE X W (.BoolOp op [a] pos) ea := pe_one h
theorem de_and {rest : List Expr} (ha : DE X W a ea) (hb : DE X W (.BoolOp .And (b :: rest) pos) eb) : DE X W (.BoolOp .And (a :: b :: rest) pos) (eAnd ea eb) :=
  pe_imp (pe_and ha hb) fun σV H Q ⟨f, σ, S, r, hE, hS, he, hq⟩ => by
    refine TX.first hE hS he (exc_way hq) fun x S1 vx H1 _ h1 s1 k1 e1 r1 => ?_
    split at h1
    · rename_i c _
      cases r1
      refine ⟨c, rfl, ?_⟩
      cases c with
      | true =>
        rw [if_pos rfl] at h1 ⊢
        refine ⟨f, σ, S1, r, e1, s1, h1, ?_⟩
        cases r with
        | ok sv S' => exact fun v H' s' k' r' => hq v H' s' (k1.trans k') r'
        | exc y S' => exact XS.kp hq k1
      | false =>
        rw [if_neg Bool.false_ne_true] at h1 ⊢
        cases h1
        exact hq _ H1 s1 k1 (Is.bl false)
    · cases h1
theorem de_or {rest : List Expr} (ha : DE X W a ea) (hb : DE X W (.BoolOp .Or (b :: rest) pos) eb) : DE X W (.BoolOp .Or (a :: b :: rest) pos) (eOr ea eb) :=
  pe_imp (pe_or ha hb) fun σV H Q ⟨f, σ, S, r, hE, hS, he, hq⟩ => by
    refine TX.first hE hS he (exc_way hq) fun x S1 vx H1 _ h1 s1 k1 e1 r1 => ?_
    split at h1
    · rename_i c _
      cases r1
      refine ⟨c, rfl, ?_⟩
      cases c with
      | false =>
        rw [if_neg Bool.false_ne_true] at h1 ⊢
        refine ⟨f, σ, S1, r, e1, s1, h1, ?_⟩
        cases r with
        | ok sv S' => exact fun v H' s' k' r' => hq v H' s' (k1.trans k') r'
        | exc y S' => exact XS.kp hq k1
      | true =>
        rw [if_pos rfl] at h1 ⊢
        cases h1
        exact hq _ H1 s1 k1 (Is.bl true)
    · cases h1
@[simp] def eNot (a : Ex) (σ : Sg) (S : Sto) : Option (Res SV) := Res.bnd (a σ S) fun x S1 => match x with
  | .d (.bool c) => some (.ok (.d (.bool (!c))) S1)
  | _ => none
theorem de_not (ha : DE X W a ea) : DE X W (.UnaryOp .Not a pos) (eNot ea) :=
  pe_imp (pe_not ha) fun σV H Q ⟨f, σ, S, r, hE, hS, he, hq⟩ => by
    refine TX.first hE hS he (exc_way hq) fun x S1 vx H1 _ h1 s1 k1 e1 r1 => ?_
    split at h1
    · cases h1
      cases r1
      exact ⟨_, rfl, hq _ H1 s1 k1 (Is.bl _)⟩
    · cases h1
/-! tests -/
theorem dt_val (ha : DE X W a ea) (he : ∀ whole, isTrue a X.env whole = (do let v ← whole; standAt a.pos; holding [v] (truthy v)) := by intro _; rfl) : DT X W a (tVal ea) :=
  pt_imp (pt_val ha he) fun σV H Q ⟨f, σ, S, r, hE, hS, he, hq⟩ => by
    refine TX.first hE hS he (fun x S' e => by subst e; exact hq) fun x S1 vx H1 _ h1 s1 k1 e1 r1 => ?_
    split at h1
    · cases h1
      cases r1
      exact ⟨_, rfl, hq H1 s1 k1⟩
    · cases h1
variable {ta tb : Tst}
theorem TT_.go {σV : L2.St} {H H1 : Hp} {f : Ow} {σ : Sg} {S1 : Sto} {Q : Bool → Hp → Prop} {r : Res Bool} (e1 : EnvR X.K f H1 σV σ) (s1 : StoR X.K f S1 H1) (k1 : Kp f H H1) (h1 : tb σ S1 = some r)
    (hq : match (generalizing := false) r with | .ok b S' => ∀ (H' : Hp), StoR X.K f S' H' → Kp f H H' → Q b H' | .exc x S' => XS X W f σV H x S') : TT_ X W tb σV H1 Q := by
  refine ⟨f, σ, S1, r, e1, s1, h1, ?_⟩
  cases r with
  | ok b S' => exact fun H' s' k' => hq H' s' (k1.trans k')
  | exc y S' => exact XS.kp hq k1
theorem TX.go {σV : L2.St} {H H1 : Hp} {f : Ow} {σ : Sg} {S1 : Sto} {Q : VK} {r : Res SV} {e : Ex} (e1 : EnvR X.K f H1 σV σ) (s1 : StoR X.K f S1 H1) (k1 : Kp f H H1) (h1 : e σ S1 = some r)
    (hq : match (generalizing := false) r with | .ok sv S' => ∀ (v : V) (H' : Hp), StoR X.K f S' H' → Kp f H H' → SvR X.K f H' v sv → Q v H' | .exc x S' => XS X W f σV H x S') : TX X W e σV H1 Q := by
  refine ⟨f, σ, S1, r, e1, s1, h1, ?_⟩
  cases r with
  | ok b S' => exact fun v H' s' k' r' => hq v H' s' (k1.trans k') r'
  | exc y S' => exact XS.kp hq k1
theorem dt_not (ha : DT X W a ta) : DT X W (.UnaryOp .Not a pos) (tNt ta) :=
  pt_imp (pt_not ha) fun σV H Q ⟨f, σ, S, r, hE, hS, he, hq⟩ => by
    refine TT_.first hE hS he (fun x S' e => by subst e; exact hq) fun b S1 H1 _ h1 s1 k1 e1 => ?_
    cases h1
    exact hq H1 s1 k1
/-- a chain of and, or, whatever its whole is -/
def DW (X : Cx) (W : WX) (e : Expr) (f : Tst) : Prop := PW X e (TT_ X W f)
theorem dw_and1 (ha : DT X W a ta) : DW X W (.BoolOp .And [a] pos) ta := pw_and1 ha
theorem dw_or1 (ha : DT X W a ta) : DW X W (.BoolOp .Or [a] pos) ta := pw_or1 ha
theorem dw_and {rest : List Expr} (ha : DT X W a ta) (hb : DW X W (.BoolOp .And (b :: rest) pos) tb) : DW X W (.BoolOp .And (a :: b :: rest) pos) (tAd ta tb) :=
  pw_imp (pw_and ha hb) fun σV H Q ⟨f, σ, S, r, hE, hS, he, hq⟩ => by
    refine TT_.first hE hS he (fun x S' e => by subst e; exact hq) fun b S1 H1 _ h1 s1 k1 e1 => ?_
    cases b with
    | true =>
      rw [if_pos rfl] at h1 ⊢
      exact TT_.go e1 s1 k1 h1 hq
    | false =>
      rw [if_neg Bool.false_ne_true] at h1 ⊢
      cases h1
      exact hq H1 s1 k1
theorem dw_or {rest : List Expr} (ha : DT X W a ta) (hb : DW X W (.BoolOp .Or (b :: rest) pos) tb) : DW X W (.BoolOp .Or (a :: b :: rest) pos) (tOr_ ta tb) :=
  pw_imp (pw_or ha hb) fun σV H Q ⟨f, σ, S, r, hE, hS, he, hq⟩ => by
    refine TT_.first hE hS he (fun x S' e => by subst e; exact hq) fun b S1 H1 _ h1 s1 k1 e1 => ?_
    cases b with
    | false =>
      rw [if_neg Bool.false_ne_true] at h1 ⊢
      exact TT_.go e1 s1 k1 h1 hq
    | true =>
      rw [if_pos rfl] at h1 ⊢
      cases h1
      exact hq H1 s1 k1
theorem dt_w (h : DW X W a ta) : DT X W a ta := PW.pt h
theorem de_if (hc : DT X W c ta) (ha : DE X W a ea) (hb : DE X W b eb) : DE X W (.IfExp c a b pos) (eIf ta ea eb) :=
  pe_imp (pe_ifExp hc ha hb) fun σV H Q ⟨f, σ, S, r, hE, hS, he, hq⟩ => by
    refine TT_.first hE hS he (exc_way hq) fun b S1 H1 _ h1 s1 k1 e1 => ?_
    cases b with
    | true =>
      rw [if_pos rfl] at h1 ⊢
      exact TX.go e1 s1 k1 h1 hq
    | false =>
      rw [if_neg Bool.false_ne_true] at h1 ⊢
      exact TX.go e1 s1 k1 h1 hq
/-! lists of arguments, displays, calls of what is built in -/
variable {es : List Expr} {fs : Exs}
theorem da_nil : DA X W [] esNil := pa_imp pa_nil fun σV H Q ⟨f, σ, S, r, hE, hS, he, hq⟩ => by
  cases he
  exact hq [] H hS (Kp.refl _ _) .nil
theorem da_cons (ha : DE X W a ea) (hr : DA X W es fs) (hs : starEach (a :: es) X.env = (false, eval a X.env) :: starEach es X.env := by rfl) : DA X W (a :: es) (esCons ea fs) :=
  pa_imp (pa_cons ha hr hs) fun σV H Q ⟨f, σ, S, r, hE, hS, he, hq⟩ => by
    have hx : ∀ x S', r = .exc x S' → XS X W f σV H x S' := fun x S' e => by subst e; exact hq
    refine TX.first hE hS he hx fun x S1 vx H1 _ h1 s1 k1 e1 r1 => ?_
    refine TXs.first e1 s1 h1 (fun y S' e => (hx y S' e).kp k1) fun ys S2 vs H2 _ h2 s2 k2 e2 r2 => ?_
    cases h2
    exact hq _ H2 s2 (k1.trans k2) (.cons (r1.kp k2) r2)
@[simp] def eCa (p : List SV → Sto → Option SV) (as : Exs) (σ : Sg) (S : Sto) : Option (Res SV) := Res.bnd (as σ S) fun xs S1 => (p xs S1).map fun z => .ok z S1
theorem ca_go {r : List V → Hp → VK → Prop} {p : List SV → Sto → Option SV} (hk : CaK X r p) {σV : L2.St} {H : Hp} {Q : VK} (h : TX X W (eCa p fs) σV H Q) : tCB r (TXs X W fs) σV H Q := by
  obtain ⟨f, σ, S, r, hE, hS, he, hq⟩ := h
  refine TXs.first hE hS he (exc_way hq) fun xs S1 vs H1 _ h1 s1 k1 e1 r1 => ?_
  cases hp : p xs S1 with
  | none => rw [hp] at h1; cases h1
  | some z =>
    rw [hp] at h1
    cases h1
    exact hk f S1 H1 vs xs z Q s1 r1 hp fun v H' s' k' r' => hq v H' s' (k1.trans k') r'
theorem de_callB {x : Str} {id : String} {p0 : Pos} {r : List V → Hp → VK → Prop} {p : List SV → Sto → Option SV} (hc : CallR X (.builtin id) r) (hk : CaK X r p) (hg : Gl X x) (hm : X.mg x = none) (hv : bootBuiltins x = some (.builtin id)) (ha : DA X W (a :: es) fs) (hn : x ≠ "__name__" := by decide) (hdb : (x == ("__debug__" : Str)) = false := by decide)
    (he : starEach (a :: es) X.env = (false, eval a X.env) :: starEach es X.env := by rfl) (hpl : (backTo pos (starEach es X.env)).any (·.1) = false := by rfl) : DE X W (.Call (.Name x p0) (a :: es) [] pos) (eCa p fs) :=
  pe_imp (pe_callB hc hg hm hv ha hn hdb he hpl) fun _ _ _ h => ca_go hk h
theorem de_callTy {x : Str} {id : String} {p0 : Pos} {r : List V → Hp → VK → Prop} {p : List SV → Sto → Option SV} (hc : CallR X (.type id) r) (hk : CaK X r p) (hg : Gl X x) (hm : X.mg x = none) (hv : bootBuiltins x = some (.type id)) (ha : DA X W (a :: es) fs) (hn : x ≠ "__name__" := by decide) (hdb : (x == ("__debug__" : Str)) = false := by decide)
    (he : starEach (a :: es) X.env = (false, eval a X.env) :: starEach es X.env := by rfl) (hpl : (backTo pos (starEach es X.env)).any (·.1) = false := by rfl) : DE X W (.Call (.Name x p0) (a :: es) [] pos) (eCa p fs) :=
  pe_imp (pe_callTy hc hg hm hv ha hn hdb he hpl) fun _ _ _ h => ca_go hk h
/-- the data of values that are data -/
@[simp] def dats : List SV → Option (List PyData)
  | [] => some []
  | .d x :: r => (dats r).map (x :: ·)
  | .r _ :: _ => none
  | .s _ :: _ => none
theorem dats_is {K : PySem.W.Frag} {f : Ow} {H : Hp} : ∀ {xs : List SV} {vs : List V} {ds : List PyData}, dats xs = some ds → Paired (SvR K f H) vs xs → IsAll K f H vs ds
  | [], _, _, h, .nil => by cases h; exact .nil
  | .d x :: r, _, ds, h, .cons a t => by
    unfold dats at h
    cases e : dats r with
    | none => rw [e] at h; cases h
    | some es => rw [e] at h; cases h; exact .cons a (dats_is e t)
  | .r _ :: _, _, _, h, _ => by cases h
  | .s _ :: _, _, _, h, _ => by cases h
@[simp] def dispT (xs : List SV) (_ : Sto) : Option SV := (dats xs).bind fun ds => if ds.length ≤ sizeLine then some (.d (.tuple ds)) else none
@[simp] def dispL (xs : List SV) (_ : Sto) : Option SV := (dats xs).bind fun ds => if ds.length ≤ sizeLine then some (.d (.list ds)) else none
theorem de_tup {k1 : Nat} (h : DA X W es fs) : DE X W (.Tuple es k1 pos) (eCa dispT fs) :=
  pe_imp (pe_tup h) fun σV H Q ⟨f, σ, S, r, hE, hS, he, hq⟩ => by
    refine TXs.first hE hS he (exc_way hq) fun xs S1 vs H1 _ h1 s1 k1 e1 r1 => ?_
    unfold dispT at h1
    cases e : dats xs with
    | none => rw [e] at h1; cases h1
    | some ds =>
      rw [e] at h1
      dsimp only [Option.bind_some] at h1
      split at h1
      · rename_i hz
        cases h1
        have q := dats_is e r1
        refine ⟨by rw [q.len]; exact hz, fun p np => ?_⟩
        refine hq _ _ (s1.laid np) (k1.trans (Kp.new np)) (Is.tup (.inl ⟨.inl upd_same, s1.free np⟩) (q.keep (Kp.new np).q (Gr.refl _ _)))
      · cases h1
theorem de_lst (h : DA X W es fs) : DE X W (.List es pos) (eCa dispL fs) :=
  pe_imp (pe_lst h) fun σV H Q ⟨f, σ, S, r, hE, hS, he, hq⟩ => by
    refine TXs.first hE hS he (exc_way hq) fun xs S1 vs H1 _ h1 s1 k1 e1 r1 => ?_
    unfold dispL at h1
    cases e : dats xs with
    | none => rw [e] at h1; cases h1
    | some ds =>
      rw [e] at h1
      dsimp only [Option.bind_some] at h1
      split at h1
      · rename_i hz
        cases h1
        have q := dats_is e r1
        refine ⟨by rw [q.len]; exact hz, fun p np => ?_⟩
        refine hq _ _ (s1.laid np) (k1.trans (Kp.new np)) (Is.lst ⟨upd_same, s1.free np⟩ (q.keep (Kp.new np).q (Gr.refl _ _)))
      · cases h1
/-- the same list, owned -/
@[simp] def nLst (as : Exs) (σ : Sg) (S : Sto) : Option (Res Ob) := Res.bnd (as σ S) fun xs S1 => (dats xs).bind fun ds => if ds.length ≤ sizeLine then some (.ok (.lst ds) S1) else none
theorem TN.first {β : Type} {e : Nw} : True := trivial
theorem dn_lst (h : DA X W es fs) : DN X W (.List es pos) (nLst fs) :=
  pe_imp (pe_lst h) fun σV H Q ⟨f, σ, S, r, hE, hS, he, hq⟩ => by
    refine TXs.first hE hS he (fun x S' e => by subst e; exact hq) fun xs S1 vs H1 _ h1 s1 k1 e1 r1 => ?_
    cases e : dats xs with
    | none => rw [e] at h1; cases h1
    | some ds =>
      rw [e] at h1
      dsimp only [Option.bind_some] at h1
      split at h1
      · rename_i hz
        cases h1
        have q := dats_is e r1
        refine ⟨by rw [q.len]; exact hz, fun p np => ?_⟩
        have nH : H p = none := by
          cases eH : H p with
          | none => rfl
          | some o =>
            have z := k1 p o (s1.free np).1 eH
            rw [np] at z; cases z
        refine hq p _ nH (s1.own np ⟨vs, upd_same, q.keep (Kp.new np).q (Gr.app fun b hb => ?_)⟩) (k1.trans (Kp.new np))
        have e' : b = p := by simpa using hb
        rw [e']; exact np
      · cases h1
end
end Z
set_option maxRecDepth 100000
namespace Z
open PySem PySem.Spec PyProof.Rows L2

/-! ## statements -/
theorem ps_imp {X : Cx} {e : Stmt} {t t' : TS} (h : PS X e t) (i : ∀ D σ H, t' D σ H → t D σ H) : PS X e t' := ⟨fun pins s σ H D I q => h.run pins s σ H D I (i D σ H q)⟩
theorem pss_imp {X : Cx} {e : List Stmt} {t t' : TS} (h : PSs X e t) (i : ∀ D σ H, t' D σ H → t D σ H) : PSs X e t' := ⟨fun pins s σ H D I q => h.run pins s σ H D I (i D σ H q)⟩

/-- a part, then a statement's end -/
def Sm.bnd {α : Type} (r : Option (Res α)) (k : α → Sto → Option Flow) : Option Flow :=
  match r with
  | some (.ok a S) => k a S
  | some (.exc x S) => some (.exc x S)
  | none => none
theorem sbnd_congr {α : Type} {r r' : Option (Res α)} {k : α → Sto → Option Flow} (h : r = r') : Sm.bnd r k = Sm.bnd r' k := by rw [h]
@[simp] theorem sbnd_ok {α : Type} {a : α} {S : Sto} {k : α → Sto → Option Flow} : Sm.bnd (some (.ok a S)) k = k a S := rfl
@[simp] theorem sbnd_exc {α : Type} {x : Exn} {S : Sto} {k : α → Sto → Option Flow} : Sm.bnd (some (.exc x S) : Option (Res α)) k = some (.exc x S) := rfl
@[simp] theorem sbnd_none {α : Type} {k : α → Sto → Option Flow} : Sm.bnd (none : Option (Res α)) k = none := rfl

section
variable {X : Cx} {W : WX} {k : Nat}
theorem TX.stm {e : Ex} {g : SV → Sto → Option Flow} {f : Ow} {σ : Sg} {S : Sto} {σV : L2.St} {H : Hp} {r : Flow} {D : Ends} {Q : VK} (hE : EnvR X.K f H σV σ) (hS : StoR X.K f S H) (h : Sm.bnd (e σ S) g = some r) (hf : Fl X W f H D r)
    (hk : ∀ (sv : SV) (S1 : Sto) (v : V) (H1 : Hp), g sv S1 = some r → Fl X W f H1 D r → StoR X.K f S1 H1 → Kp f H H1 → EnvR X.K f H1 σV σ → SvR X.K f H1 v sv → Q v H1) : TX X W e σV H Q := by
  cases e1 : e σ S with
  | none => rw [e1] at h; cases h
  | some q =>
    rw [e1] at h
    refine ⟨f, σ, S, q, hE, hS, e1, ?_⟩
    cases q with
    | ok sv S1 => exact fun v H1 s1 k1 r1 => hk sv S1 v H1 h (hf.kp s1 k1) s1 k1 (hE.kp k1) r1
    | exc x S1 =>
      cases h
      exact XS.of hf
theorem TXs.stm {e : Exs} {g : List SV → Sto → Option Flow} {f : Ow} {σ : Sg} {S : Sto} {σV : L2.St} {H : Hp} {r : Flow} {D : Ends} {Q : List V → Hp → Prop} (hE : EnvR X.K f H σV σ) (hS : StoR X.K f S H) (h : Sm.bnd (e σ S) g = some r) (hf : Fl X W f H D r)
    (hk : ∀ (sv : List SV) (S1 : Sto) (v : List V) (H1 : Hp), g sv S1 = some r → Fl X W f H1 D r → StoR X.K f S1 H1 → Kp f H H1 → EnvR X.K f H1 σV σ → Paired (SvR X.K f H1) v sv → Q v H1) : TXs X W e σV H Q := by
  cases e1 : e σ S with
  | none => rw [e1] at h; cases h
  | some q =>
    rw [e1] at h
    refine ⟨f, σ, S, q, hE, hS, e1, ?_⟩
    cases q with
    | ok sv S1 => exact fun v H1 s1 k1 r1 => hk sv S1 v H1 h (hf.kp s1 k1) s1 k1 (hE.kp k1) r1
    | exc x S1 =>
      cases h
      exact XS.of hf
theorem TT_.stm {e : Tst} {g : Bool → Sto → Option Flow} {f : Ow} {σ : Sg} {S : Sto} {σV : L2.St} {H : Hp} {r : Flow} {D : Ends} {Q : Bool → Hp → Prop} (hE : EnvR X.K f H σV σ) (hS : StoR X.K f S H) (h : Sm.bnd (e σ S) g = some r) (hf : Fl X W f H D r)
    (hk : ∀ (sv : Bool) (S1 : Sto) (H1 : Hp), g sv S1 = some r → Fl X W f H1 D r → StoR X.K f S1 H1 → Kp f H H1 → EnvR X.K f H1 σV σ → Q sv H1) : TT_ X W e σV H Q := by
  cases e1 : e σ S with
  | none => rw [e1] at h; cases h
  | some q =>
    rw [e1] at h
    refine ⟨f, σ, S, q, hE, hS, e1, ?_⟩
    cases q with
    | ok sv S1 => exact fun H1 s1 k1 => hk sv S1 H1 h (hf.kp s1 k1) s1 k1 (hE.kp k1)
    | exc x S1 =>
      cases h
      exact XS.of hf
theorem TN.stm {e : Nw} {g : Ob → Sto → Option Flow} {f : Ow} {σ : Sg} {S : Sto} {σV : L2.St} {H : Hp} {r : Flow} {D : Ends} {Q : VK} (hE : EnvR X.K f H σV σ) (hS : StoR X.K f S H) (h : Sm.bnd (e σ S) g = some r) (hf : Fl X W f H D r)
    (hk : ∀ (ob : Ob) (S1 : Sto) (p : Addr) (H1 : Hp), g ob S1 = some r → Fl X W (f.add [p]) H1 D r → StoR X.K (f.add [p]) (S1 ++ [ob]) H1 → Kp f H H1 → EnvR X.K (f.add [p]) H1 σV σ → H p = none → Q (.ref p) H1) : TN X W e σV H Q := by
  cases e1 : e σ S with
  | none => rw [e1] at h; cases h
  | some q =>
    rw [e1] at h
    refine ⟨f, σ, S, q, hE, hS, e1, ?_⟩
    cases q with
    | ok ob S1 =>
      intro p H1 np s1 k1
      have n1 : ∀ a ∈ [p], H a = none := fun a m => by
        have e : a = p := by simpa using m
        rw [e]; exact np
      exact hk ob S1 p H1 h (hf.step n1 s1 k1) s1 k1 (hE.keep k1.q (Gr.app n1) (Pf.add _ _)) np
    | exc x S1 =>
      cases h
      exact XS.of hf
theorem ReS.now {f : Ow} {H : Hp} {σV : L2.St} {σ : Sg} {S : Sto} {P : L2.St → Hp → Prop} (h : ReS X f H σ S P) (s : StoR X.K f S H) (e : EnvR X.K f H σV σ) : P σV H :=
  h [] σV H (fun _ z => nomatch z) (by rw [Ow.add_nil]; exact s) (Kp.refl _ _) (by rw [Ow.add_nil]; exact e)
theorem ReV.now {f : Ow} {H : Hp} {u : V} {v : SV} {S : Sto} {P : V → Hp → Prop} (h : ReV X f H v S P) (s : StoR X.K f S H) (e : SvR X.K f H u v) : P u H :=
  h [] u H (fun _ z => nomatch z) (by rw [Ow.add_nil]; exact s) (Kp.refl _ _) (by rw [Ow.add_nil]; exact e)
theorem EnvR.set {f : Ow} {H : Hp} {σV : L2.St} {σ : Sg} {v : V} {x : SV} (h : EnvR X.K f H σV σ) (i : Nat) (r : SvR X.K f H v x) : EnvR X.K f H (σV.set i (some v)) (σ.set i (some x)) := by
  refine ⟨by simp [h.len], fun j y e => ?_⟩
  by_cases hj : i = j
  · subst hj
    have hi : i < σ.length := by
      have := (List.getElem?_eq_some_iff.mp e).1
      simpa using this
    rw [List.getElem?_set_self hi] at e
    cases e
    exact ⟨v, by rw [List.getElem?_set_self (by rw [h.len]; exact hi)], r⟩
  · rw [List.getElem?_set_ne hj] at e
    obtain ⟨u, e1, r1⟩ := h.get j y e
    exact ⟨u, by rw [List.getElem?_set_ne hj]; exact e1, r1⟩
end

/-! ### targets: what is given is data -/
abbrev Tg := PyData → Sg → Option Sg
@[simp] def gVar (i : Nat) (d : PyData) (σ : Sg) : Option Sg := some (σ.set i (some (.d d)))
@[simp] def gPair (a b : Tg) (d : PyData) (σ : Sg) : Option Sg := match d with
  | .tuple [x, y] => (a x σ).bind (b y)
  | _ => none
@[simp] def gTrip (a b c : Tg) (d : PyData) (σ : Sg) : Option Sg := match d with
  | .tuple [x, y, z] => ((a x σ).bind (b y)).bind (c z)
  | _ => none
/-- two frames that agree outside some slots -/
def Agr (is : List Nat) (a b : L2.St) : Prop := b.length = a.length ∧ ∀ j, j ∉ is → b[j]? = a[j]?
theorem Agr.trans {is js : List Nat} {a b c : L2.St} (h : Agr is a b) (k : Agr js b c) : Agr (is ++ js) a c :=
  ⟨k.1.trans h.1, fun j n => (k.2 j fun m => n (List.mem_append_right _ m)).trans (h.2 j fun m => n (List.mem_append_left _ m))⟩
def TG_ (X : Cx) (g : Tg) (is : List Nat) : TG := fun v σV H Q => ∃ (f : Ow) (σ σ' : Sg) (d : PyData), EnvR X.K f H σV σ ∧ Is X.K f H v d ∧ g d σ = some σ' ∧ ∀ σV', EnvR X.K f H σV' σ' → Agr is σV σV' → Q σV' H
def DG (X : Cx) (e : Expr) (g : Tg) (is : List Nat) : Prop := PG X e (TG_ X g is)
theorem pg_imp {X : Cx} {e : Expr} {t t' : TG} (h : PG X e t) (i : ∀ v σ H Q, t' v σ H Q → t v σ H Q) : PG X e t' := ⟨fun pins s σ H v u Q I r q => h.run pins s σ H v u Q I r (i v σ H Q q)⟩
section
variable {X : Cx} {W : WX} {pos : Pos}
theorem dg_var {i : Nat} {x : Str} (hN : X.N.Nodup) (hi : X.N[i]? = some x := by rfl) (hx : Loc X.env.scope x := by first | exact Or.inl rfl | exact Or.inr rfl) (hf : X.fn x = true ∨ X.env.scope.names.lookup x = some .local := by first | exact .inl rfl | exact .inr rfl) : DG X (.Name x pos) (gVar i) [i] :=
  pg_imp (pg_name hN hi hx hf) fun v σV H Q ⟨f, σ, σ', d, hE, hv, hg, q⟩ => by
    cases hg
    exact q _ (hE.set i hv) ⟨by simp, fun j n => List.getElem?_set_ne fun z => n (by simp [z])⟩
theorem dg_pair {e1 e2 : Expr} {k : Nat} {g1 g2 : Tg} {i1 i2 : List Nat} (hc : X.calm = true) (h1 : DG X e1 g1 i1) (h2 : DG X e2 g2 i2)
    (hs1 : (assignEach [e1, e2] X.env).map (·.2) = assign e1 X.env :: (assignEach [e2] X.env).map (·.2) := by rfl) (hs2 : (assignEach [e2] X.env).map (·.2) = assign e2 X.env :: (assignEach [] X.env).map (·.2) := by rfl)
    (hn : (assignEach [e1, e2] X.env).length = 2 := by rfl) (hst : (assignEach [e1, e2] X.env).findIdx? (·.1) = none := by rfl) : DG X (.Tuple [e1, e2] k pos) (gPair g1 g2) (i1 ++ i2) :=
  pg_imp (pg_tup hc (pgs_cons h1 (pgs_cons h2 pgs_nil hs2) hs1) hn hst) fun v σV H Q ⟨f, σ, σ', d, hE, hv, hg, q⟩ => by
    unfold gPair at hg
    split at hg
    · rename_i x y
      cases hv with
      | @tup a xs _ ht ha =>
      cases ha with
      | @cons v1 vs1 _ _ h1' r1 =>
      cases r1 with
      | @cons v2 vs2 _ _ h2' r2 =>
      cases r2
      cases hg1 : g1 x σ with
      | none => rw [hg1] at hg; cases hg
      | some σ1 =>
        rw [hg1] at hg
        have hg : g2 y σ1 = some σ' := hg
        exact ⟨a, _, rfl, ht.sq, rfl, v1, [v2], rfl, ⟨f, σ, σ1, x, hE, h1', hg1, fun σV1 e1 a1 => ⟨v2, [], rfl, ⟨f, σ1, σ', y, e1, h2', hg, fun σV2 e2 a2 => ⟨rfl, q σV2 e2 (a1.trans a2)⟩⟩⟩⟩⟩
    · cases hg
theorem dg_trip {e1 e2 e3 : Expr} {k : Nat} {g1 g2 g3 : Tg} {i1 i2 i3 : List Nat} (hc : X.calm = true) (h1 : DG X e1 g1 i1) (h2 : DG X e2 g2 i2) (h3 : DG X e3 g3 i3)
    (hs1 : (assignEach [e1, e2, e3] X.env).map (·.2) = assign e1 X.env :: (assignEach [e2, e3] X.env).map (·.2) := by rfl) (hs2 : (assignEach [e2, e3] X.env).map (·.2) = assign e2 X.env :: (assignEach [e3] X.env).map (·.2) := by rfl)
    (hs3 : (assignEach [e3] X.env).map (·.2) = assign e3 X.env :: (assignEach [] X.env).map (·.2) := by rfl)
    (hn : (assignEach [e1, e2, e3] X.env).length = 3 := by rfl) (hst : (assignEach [e1, e2, e3] X.env).findIdx? (·.1) = none := by rfl) : DG X (.Tuple [e1, e2, e3] k pos) (gTrip g1 g2 g3) (i1 ++ i2 ++ i3) :=
  pg_imp (pg_tup hc (pgs_cons h1 (pgs_cons h2 (pgs_cons h3 pgs_nil hs3) hs2) hs1) hn hst) fun v σV H Q ⟨f, σ, σ', d, hE, hv, hg, q⟩ => by
    unfold gTrip at hg
    split at hg
    · rename_i x y z
      cases hv with
      | @tup a xs _ ht ha =>
      cases ha with
      | @cons v1 vs1 _ _ h1' r1 =>
      cases r1 with
      | @cons v2 vs2 _ _ h2' r2 =>
      cases r2 with
      | @cons v3 vs3 _ _ h3' r3 =>
      cases r3
      cases hg1 : g1 x σ with
      | none => rw [hg1] at hg; cases hg
      | some σ1 =>
        rw [hg1] at hg
        have hg : (g2 y σ1).bind (g3 z) = some σ' := hg
        cases hg2 : g2 y σ1 with
        | none => rw [hg2] at hg; cases hg
        | some σ2 =>
          rw [hg2] at hg
          have hg : g3 z σ2 = some σ' := hg
          exact ⟨a, _, rfl, ht.sq, rfl, v1, [v2, v3], rfl, ⟨f, σ, σ1, x, hE, h1', hg1, fun σV1 e1 a1 => ⟨v2, [v3], rfl, ⟨f, σ1, σ2, y, e1, h2', hg2, fun σV2 e2 a2 => ⟨v3, [], rfl, ⟨f, σ2, σ', z, e2, h3', hg, fun σV3 e3 a3 => ⟨rfl, q σV3 e3 ((a1.trans a2).trans a3)⟩⟩⟩⟩⟩⟩⟩
    · cases hg

/-! ### plain statements -/
@[simp] def sNil (σ : Sg) (S : Sto) : Option Flow := some (.nx σ S)
@[simp] def sSet (i : Nat) (e : Ex) (σ : Sg) (S : Sto) : Option Flow := Sm.bnd (e σ S) fun v S1 => some (.nx (σ.set i (some v)) S1)
@[simp] def sNew (i : Nat) (e : Nw) (σ : Sg) (S : Sto) : Option Flow := Sm.bnd (e σ S) fun ob S1 => some (.nx (σ.set i (some (.r S1.length))) (S1 ++ [ob]))
@[simp] def sAsg (g : Tg) (e : Ex) (σ : Sg) (S : Sto) : Option Flow := Sm.bnd (e σ S) fun v S1 => match v with
  | .d d => (g d σ).map fun σ' => .nx σ' S1
  | _ => none
@[simp] def sDo (e : Ex) (σ : Sg) (S : Sto) : Option Flow := Sm.bnd (e σ S) fun _ S1 => some (.nx σ S1)
@[simp] def sRet (e : Ex) (σ : Sg) (S : Sto) : Option Flow := Sm.bnd (e σ S) fun v S1 => some (.rt v S1)
@[simp] def sRetNew (e : Nw) (σ : Sg) (S : Sto) : Option Flow := Sm.bnd (e σ S) fun ob S1 => some (.rt (.r S1.length) (S1 ++ [ob]))
@[simp] def sRetN (_ : Sg) (S : Sto) : Option Flow := some (.rt (.d .none) S)
@[simp] def sIf (c : Tst) (a b : Sm) (σ : Sg) (S : Sto) : Option Flow := Sm.bnd (c σ S) fun x S1 => if x = true then a σ S1 else b σ S1
@[simp] def sSeq (a b : Sm) (σ : Sg) (S : Sto) : Option Flow := match a σ S with
  | some (.nx σ' S') => b σ' S'
  | r => r
@[simp] def sPar (i j : Nat) (as : Exs) (σ : Sg) (S : Sto) : Option Flow := Sm.bnd (as σ S) fun vs S1 => match vs with
  | [x, y] => some (.nx ((σ.set i (some x)).set j (some y)) S1)
  | _ => none

variable {e : Expr} {ee : Ex} {en : Nw} {st : Stmt} {sts : List Stmt} {m n : Sm}
theorem ds_set {i : Nat} {x : Str} {pos' : Pos} (hN : X.N.Nodup) (hi : X.N[i]? = some x) (hx : Loc X.env.scope x) (he : DE X W e ee) (hs : swapsWith e (some (.Name x pos')) pos.line X.env = pure false := by rfl) (hf : X.fn x = true ∨ X.env.scope.names.lookup x = some .local := by first | exact .inl rfl | exact .inr rfl) :
    DS X W (.Assign [.Name x pos'] e pos) (sSet i ee) :=
  ps_imp (ps_set hN hi hx he hs hf) fun D σV H ⟨f, σ, S, r, hE, hS, hr, hf⟩ => by
    refine TX.stm hE hS hr hf fun v S1 u H1 h1 f1 s1 k1 e1 r1 => ?_
    cases h1
    exact ReS.now f1 s1 (e1.set i r1)
theorem ds_new {i : Nat} {x : Str} {pos' : Pos} (hN : X.N.Nodup) (hi : X.N[i]? = some x) (hx : Loc X.env.scope x) (he : DN X W e en) (hs : swapsWith e (some (.Name x pos')) pos.line X.env = pure false := by rfl) (hf : X.fn x = true ∨ X.env.scope.names.lookup x = some .local := by first | exact .inl rfl | exact .inr rfl) :
    DS X W (.Assign [.Name x pos'] e pos) (sNew i en) :=
  ps_imp (ps_set hN hi hx he hs hf) fun D σV H ⟨f, σ, S, r, hE, hS, hr, hf⟩ => by
    refine TN.stm hE hS hr hf fun ob S1 p H1 h1 f1 s1 k1 e1 _ => ?_
    cases h1
    refine ReS.now f1 s1 (e1.set i ⟨p, ?_, rfl⟩)
    have hl : f.o.length = S1.length := by
      have := s1.len
      simp [Ow.add] at this
      exact this
    show (f.o ++ [p])[S1.length]? = some p
    rw [← hl]; simp
theorem ds_asg {tg : Expr} {g : Tg} {is : List Nat} (he : DE X W e ee) (hg : DG X tg g is) (hs : swapsWithSole [tg] e pos.line X.env = pure false := by rfl) (hw : swappedStores [tg] e X.env = pure none := by rfl)
    (h1 : (assignEach [tg] X.env).map (·.2) = [assign tg X.env] := by rfl) : DS X W (.Assign [tg] e pos) (sAsg g ee) :=
  ps_imp (ps_asg he hg hs hw h1) fun D σV H ⟨f, σ, S, r, hE, hS, hr, hf⟩ => by
    refine TX.stm hE hS hr hf fun v S1 u H1 h1 f1 s1 k1 e1 r1 => ?_
    cases v with
    | r i => cases h1
    | s ns => cases h1
    | d d =>
      cases hg : g d σ with
      | none =>
        dsimp only at h1
        rw [hg] at h1; cases h1
      | some σ' =>
        dsimp only at h1
        rw [hg] at h1; cases h1
        exact ⟨f, σ, σ', d, e1, r1, hg, fun σV' e' _ => ReS.now f1 s1 e'⟩
theorem ds_do (he : DE X W e ee) (hs : swapsWith e none pos.line X.env = pure false := by rfl) : DS X W (.Expr e pos) (sDo ee) :=
  ps_imp (ps_expr he hs) fun D σV H ⟨f, σ, S, r, hE, hS, hr, hf⟩ => by
    refine TX.stm hE hS hr hf fun v S1 u H1 h1 f1 s1 k1 e1 r1 => ?_
    cases h1
    exact ReS.now f1 s1 e1
theorem ds_ret (he : DE X W e ee) : DS X W (.Return (some e) pos) (sRet ee) :=
  ps_imp (ps_ret he) fun D σV H ⟨f, σ, S, r, hE, hS, hr, hf⟩ => by
    refine TX.stm hE hS hr hf fun v S1 u H1 h1 f1 s1 k1 e1 r1 => ?_
    cases h1
    exact ReV.now f1 s1 r1
theorem ds_retNew (he : DN X W e en) : DS X W (.Return (some e) pos) (sRetNew en) :=
  ps_imp (ps_ret he) fun D σV H ⟨f, σ, S, r, hE, hS, hr, hf⟩ => by
    refine TN.stm hE hS hr hf fun ob S1 p H1 h1 f1 s1 k1 e1 _ => ?_
    cases h1
    refine ReV.now f1 s1 ⟨p, ?_, rfl⟩
    have hl : f.o.length = S1.length := by
      have := s1.len
      simp [Ow.add] at this
      exact this
    show (f.o ++ [p])[S1.length]? = some p
    rw [← hl]; simp
theorem ds_retN : DS X W (.Return none pos) sRetN :=
  ps_imp ps_retN fun D σV H ⟨f, σ, S, r, hE, hS, hr, hf⟩ => by
    cases hr
    exact ReV.now hf hS Is.non
theorem ds_pass : DS X W (.Pass pos) sNil := ps_imp ps_pass fun D σV H ⟨f, σ, S, r, hE, hS, hr, hf⟩ => by
  cases hr
  exact ReS.now hf hS hE
@[simp] def sBrk (σ : Sg) (S : Sto) : Option Flow := some (.bk σ S)
@[simp] def sCont (σ : Sg) (S : Sto) : Option Flow := some (.ct σ S)
theorem ds_break : DS X W (.Break pos) sBrk := ps_imp ps_break fun D σV H ⟨f, σ, S, r, hE, hS, hr, hf⟩ => by
  cases hr
  exact ReS.now hf hS hE
theorem ds_cont : DS X W (.Continue pos) sCont := ps_imp ps_continue fun D σV H ⟨f, σ, S, r, hE, hS, hr, hf⟩ => by
  cases hr
  exact ReS.now hf hS hE
/-- what is never reached -/
@[simp] def sNo (_ : Sg) (_ : Sto) : Option Flow := none
theorem ds_no : DS X W st sNo := ps_imp ps_never fun D σV H ⟨f, σ, S, r, hE, hS, hr, hf⟩ => nomatch hr
theorem db_no : DB X W sts sNo := pss_imp pss_never fun D σV H ⟨f, σ, S, r, hE, hS, hr, hf⟩ => nomatch hr
theorem db_nil : DB X W [] sNil := pss_imp pss_nil fun D σV H ⟨f, σ, S, r, hE, hS, hr, hf⟩ => by
  cases hr
  exact ReS.now hf hS hE
theorem db_one (h : DS X W st m) : DB X W [st] m := pss_one h
theorem db_cons (h1 : DS X W st m) (h2 : DB X W sts n) : DB X W (st :: sts) (sSeq m n) :=
  pss_imp (pss_cons h1 h2) fun D σV H ⟨f, σ, S, r, hE, hS, hr, hf⟩ => by
    cases hm : m σ S with
    | none =>
      unfold sSeq at hr
      rw [hm] at hr; cases hr
    | some q =>
      unfold sSeq at hr
      rw [hm] at hr
      refine ⟨f, σ, S, q, hE, hS, hm, ?_⟩
      cases q with
      | nx σ' S' =>
        intro ex σV' H' n1 s1 k1 e1
        exact ⟨f.add ex, σ', S', r, e1, s1, hr, hf.step n1 s1 k1⟩
      | rt v S' => cases hr; exact hf
      | bk σ' S' => cases hr; exact hf
      | ct σ' S' => cases hr; exact hf
      | exc x S' => cases hr; exact hf
theorem ds_if {c : Expr} {tc : Tst} {a b : List Stmt} (hc : DT X W c tc) (ha : DB X W a m) (hb : DB X W b n) : DS X W (.If c a b pos) (sIf tc m n) :=
  ps_imp (ps_if hc ha hb) fun D σV H ⟨f, σ, S, r, hE, hS, hr, hf⟩ => by
    refine TT_.stm hE hS hr hf fun x S1 H1 h1 f1 s1 k1 e1 => ?_
    cases x with
    | true =>
      rw [if_pos rfl] at h1 ⊢
      exact ⟨f, σ, S1, r, e1, s1, h1, f1⟩
    | false =>
      rw [if_neg Bool.false_ne_true] at h1 ⊢
      exact ⟨f, σ, S1, r, e1, s1, h1, f1⟩
theorem ds_par {i j : Nat} {x y : Str} {a b : Expr} {fs : Exs} {px py pt : Pos} {kt k2 pt2} (hc : X.calm = true) (hN : X.N.Nodup) (ha : DA X W [a, b] fs) (hi : X.N[i]? = some x := by rfl) (hj : X.N[j]? = some y := by rfl) (hij : i ≠ j := by decide)
    (hx : X.env.scope.names.lookup x = some .local := by rfl) (hy : X.env.scope.names.lookup y = some .local := by rfl)
    (hw : swappedStores [.Tuple [.Name x px, .Name y py] kt pt] (.Tuple [a, b] k2 pt2) X.env = pure (some [x, y]) := by rfl)
    (hs : swapsWithSole [.Tuple [.Name x px, .Name y py] kt pt] (.Tuple [a, b] k2 pt2) pos.line X.env = pure false := by rfl) :
    DS X W (.Assign [.Tuple [.Name x px, .Name y py] kt pt] (.Tuple [a, b] k2 pt2) pos) (sPar i j fs) :=
  ps_imp (ps_par hc hN hi hj hij hx hy ha hw hs) fun D σV H ⟨f, σ, S, r, hE, hS, hr, hf⟩ => by
    refine TXs.stm hE hS hr hf fun vs S1 us H1 h1 f1 s1 k1 e1 r1 => ?_
    split at h1
    · cases h1
      cases r1 with
      | cons p1 q1 =>
      cases q1 with
      | cons p2 q2 =>
      cases q2
      exact ⟨_, _, rfl, ReS.now f1 s1 ((e1.set i p1).set j p2)⟩
    · cases h1
end
end Z
set_option maxRecDepth 100000
namespace Z
open PySem PySem.Spec PyProof.Rows L2

/-! ## loops -/
/-- what is walked: the items; a list of the store that must stay as it is -/
structure Wk where
  ds : List PyData
  own : Option (Nat × List PyData) := none
abbrev Wl := Sg → Sto → Option (Res Wk)
def gdOk (o : Option (Nat × List PyData)) (S : Sto) : Prop := match o with
  | none => True
  | some (j, ds) => S[j]? = some (.lst ds)
structure Walks (X : Cx) (f : Ow) (H : Hp) (J : It) (w : Wk) : Prop where
  item : ∀ (i : Nat) (d : PyData) (f' : Ow) (S : Sto) (H' : Hp), w.ds[i]? = some d → Kq f H H' → Gr f f' H → Pf f f' → StoR X.K f' S H' → gdOk w.own S →
    J.go i H' ∧ ∀ x H'', J.yld i H' x H'' → StoR X.K f' S H'' ∧ Kp f' H' H'' ∧ Is X.K f' H'' x d
  stop : ∀ (i : Nat) (f' : Ow) (S : Sto) (H' : Hp), w.ds.length ≤ i → Kq f H H' → Gr f f' H → Pf f f' → StoR X.K f' S H' → gdOk w.own S → J.stop i H'
def TI_ (X : Cx) (W : WX) (w : Wl) : TI := fun σV H R => ∃ (f : Ow) (σ : Sg) (S : Sto) (r : Res Wk), EnvR X.K f H σV σ ∧ StoR X.K f S H ∧ w σ S = some r ∧
  match r with
  | .ok wk S' => ∀ (J : It) (H' : Hp), StoR X.K f S' H' → Kp f H H' → Walks X f H' J wk → R J H'
  | .exc x S' => XS X W f σV H x S'
def DI (X : Cx) (W : WX) (tg iter : Expr) (w : Wl) : Prop := PI X tg iter (TI_ X W w)
theorem pi_imp {X : Cx} {tg e : Expr} {t t' : TI} (h : PI X tg e t) (i : ∀ σ H Q, t' σ H Q → t σ H Q) : PI X tg e t' := ⟨fun pins s σ H Q I q => h.run pins s σ H Q I (i σ H Q q)⟩

open Classical in
noncomputable def forGo (own : Option (Nat × List PyData)) (g : Tg) (body : Sm) : List PyData → Sm
  | [] => fun σ S => if gdOk own S then some (.nx σ S) else none
  | d :: ds => fun σ S => if gdOk own S then (g d σ).bind fun σ1 => match body σ1 S with
    | some (.nx σ2 S2) => forGo own g body ds σ2 S2
    | some (.ct σ2 S2) => forGo own g body ds σ2 S2
    | some (.bk σ2 S2) => some (.nx σ2 S2)
    | some (.rt v S2) => some (.rt v S2)
    | some (.exc x S2) => some (.exc x S2)
    | none => none
    else none
@[simp] noncomputable def sFor (w : Wl) (g : Tg) (body : Sm) (σ : Sg) (S : Sto) : Option Flow := Sm.bnd (w σ S) fun wk S1 => forGo wk.own g body wk.ds σ S1
section
variable {X : Cx} {W : WX} {pos : Pos} {tg iter : Expr} {w : Wl} {g : Tg} {body : List Stmt} {m : Sm}
theorem ds_for (hp : PassesOwn (model X.prog X.w) X.A X.env X.xe) (hc : X.calm = true) (hi : DI X W tg iter w) {is : List Nat} (hg : DG X tg g is) (hb : DB X W body m) (hs : ∀ x, foldedSetIterable iter X.env x = pure x := by intro _; rfl) :
    DS X W (.For tg iter body [] pos) (sFor w g m) :=
  ps_imp (ps_for hp hc hi hg hb hs) fun D σV H ⟨f, σ, S, r, hE, hS, hr, hf⟩ => by
    unfold sFor at hr
    cases e1 : w σ S with
    | none => rw [e1] at hr; cases hr
    | some q =>
    rw [e1] at hr
    refine ⟨f, σ, S, q, hE, hS, e1, ?_⟩
    cases q with
    | exc x S1 =>
      cases hr
      exact XS.of hf
    | ok wk S1 =>
    intro J H1 s1 k1 wks
    have f1 := hf.kp s1 k1
    have hr : forGo wk.own g m wk.ds σ S1 = some r := hr
    refine ⟨fun i mm σV2 H2 => mm = wk.ds.length - i ∧ i ≤ wk.ds.length ∧ ∃ (ex : List Addr) (σ2 : Sg) (S2 : Sto), Kp f H1 H2 ∧ (∀ a ∈ ex, H1 a = none) ∧ EnvR X.K (f.add ex) H2 σV2 σ2 ∧ StoR X.K (f.add ex) S2 H2 ∧ forGo wk.own g m (wk.ds.drop i) σ2 S2 = some r ∧ Fl X W (f.add ex) H2 D r,
      ⟨_, by rfl, Nat.zero_le _, [], σ, S1, Kp.refl _ _, (fun _ z => nomatch z), by rw [Ow.add_nil]; exact hE.kp k1, by rw [Ow.add_nil]; exact s1, hr, by rw [Ow.add_nil]; exact f1⟩, ?_⟩
    rintro i mm σV2 H2 ⟨rfl, hi, ex, σ2, S2, k2, n2, e2, s2, r2, f2⟩
    by_cases hlt : i < wk.ds.length
    · right
      rw [List.drop_eq_getElem_cons hlt] at r2
      unfold forGo at r2
      split at r2
      · rename_i hgd
        have hget : wk.ds[i]? = some wk.ds[i] := List.getElem?_eq_getElem hlt
        obtain ⟨go, yl⟩ := wks.item i _ (f.add ex) S2 H2 hget k2.q (Gr.app n2) (Pf.add _ _) s2 hgd
        cases hgs : g wk.ds[i] σ2 with
        | none => rw [hgs] at r2; cases r2
        | some σ3 =>
        rw [hgs] at r2
        dsimp only [Option.bind_some] at r2
        refine ⟨go, fun σV' H' => (i + 1 ≤ wk.ds.length ∧ ∃ (ex : List Addr) (σ2 : Sg) (S2 : Sto), Kp f H1 H' ∧ (∀ a ∈ ex, H1 a = none) ∧ EnvR X.K (f.add ex) H' σV' σ2 ∧ StoR X.K (f.add ex) S2 H' ∧ forGo wk.own g m (wk.ds.drop (i + 1)) σ2 S2 = some r ∧ Fl X W (f.add ex) H' D r), fun σV' H' h => ⟨wk.ds.length - (i + 1), by omega, rfl, h.1, h.2⟩, fun x H3 hy => ?_⟩
        obtain ⟨s3, k3, i3⟩ := yl x H3 hy
        refine ⟨f.add ex, σ2, σ3, _, e2.kp k3, i3, hgs, fun σV3 e3 _ => ?_⟩
        have f3 := f2.kp s3 k3
        cases hm : m σ3 S2 with
        | none => rw [hm] at r2; cases r2
        | some q =>
        rw [hm] at r2
        refine ⟨f.add ex, σ3, S2, q, e3, s3, hm, ?_⟩
        have next : ∀ (σ' : Sg) (S' : Sto), forGo wk.own g m (wk.ds.drop (i + 1)) σ' S' = some r → ReS X (f.add ex) H3 σ' S' (fun σV' H' => (i + 1 ≤ wk.ds.length ∧ ∃ (ex : List Addr) (σ2 : Sg) (S2 : Sto), Kp f H1 H' ∧ (∀ a ∈ ex, H1 a = none) ∧ EnvR X.K (f.add ex) H' σV' σ2 ∧ StoR X.K (f.add ex) S2 H' ∧ forGo wk.own g m (wk.ds.drop (i + 1)) σ2 S2 = some r ∧ Fl X W (f.add ex) H' D r)) := by
          intro σ' S' hgo ex' σV' H' n' s' k' e'
          have k23 : Kp f H1 H3 := Kp.more n2 k2 k3
          exact ⟨hlt, ex ++ ex', σ', S', Kp.more n2 k23 k', fresh_app (X := X) n2 s3 k23 s3.all n', by rw [← Ow.add_add]; exact e', by rw [← Ow.add_add]; exact s', hgo, by rw [← Ow.add_add]; exact f3.step n' s' k'⟩
        cases q with
        | nx σ' S' => exact next σ' S' r2
        | ct σ' S' => exact next σ' S' r2
        | bk σ' S' => cases r2; exact f3
        | rt v S' => cases r2; exact f3
        | exc x S' => cases r2; exact f3
      · cases r2
    · left
      have hi2 : i = wk.ds.length := by omega
      subst hi2
      rw [List.drop_length] at r2
      unfold forGo at r2
      split at r2
      · rename_i hgd
        cases r2
        exact ⟨wks.stop _ (f.add ex) S2 H2 (Nat.le_refl _) k2.q (Gr.app n2) (Pf.add _ _) s2 hgd, ReS.now f2 s2 e2⟩
      · cases r2
end
/-! ## comprehensions -/
@[simp] def wipeS (σ : Sg) : List Nat → Sg
  | [] => σ
  | i :: vs => (wipeS σ vs).set i none
theorem wipe_get {σ : L2.St} {j : Nat} : ∀ {vs : List Nat}, (wipe σ vs)[j]? = if j ∈ vs ∧ j < σ.length then some none else σ[j]?
  | [] => by simp [wipe]
  | i :: vs => by
    have ih := wipe_get (σ := σ) (j := j) (vs := vs)
    have hl := wipe_length σ vs
    by_cases hj : i = j
    · subst hj
      by_cases h : i < σ.length
      · simp [wipe, h, hl]
      · simp [wipe, h, hl]
    · simp only [wipe]
      rw [List.getElem?_set_ne hj, ih]
      have : (j ∈ i :: vs) ↔ j ∈ vs := by
        constructor
        · intro m
          rcases List.mem_cons.mp m with m | m
          · exact absurd m.symm hj
          · exact m
        · exact List.mem_cons_of_mem _
      simp only [this]
theorem wipe_agr {vs is : List Nat} {a b : L2.St} (h : Agr is a b) (hs : ∀ i ∈ is, i ∈ vs) : wipe b vs = wipe a vs := by
  apply List.ext_getElem?
  intro j
  rw [wipe_get, wipe_get, h.1]
  by_cases hj : j ∈ vs ∧ j < a.length
  · rw [if_pos hj, if_pos hj]
  · rw [if_neg hj, if_neg hj]
    by_cases hv : j ∈ is
    · have : ¬ j < a.length := fun z => hj ⟨hs j hv, z⟩
      have hb : ¬ j < b.length := by rw [h.1]; exact this
      rw [List.getElem?_eq_none (by omega), List.getElem?_eq_none (by omega)]
    · exact h.2 j hv
theorem wipe_wipe {vs : List Nat} {a : L2.St} : wipe (wipe a vs) vs = wipe a vs := by
  apply List.ext_getElem?
  intro j
  rw [wipe_get, wipe_get, wipe_length]
  by_cases hj : j ∈ vs ∧ j < a.length
  · rw [if_pos hj, if_pos hj]
  · rw [if_neg hj]
theorem EnvR.wipe {K : PySem.W.Frag} {f : Ow} {H : Hp} {σV : L2.St} {σ : Sg} (h : EnvR K f H σV σ) : ∀ vs : List Nat, EnvR K f H (wipe σV vs) (wipeS σ vs)
  | [] => h
  | i :: vs => by
    have ih := EnvR.wipe h vs
    refine ⟨by simp [L2.wipe, wipeS, ih.len], fun j y e => ?_⟩
    unfold wipeS at e
    unfold L2.wipe
    by_cases hj : i = j
    · subst hj
      by_cases hi : i < (wipeS σ vs).length
      · rw [List.getElem?_set_self hi] at e; cases e
      · rw [List.getElem?_eq_none (by simpa using hi)] at e; cases e
    · rw [List.getElem?_set_ne hj] at e
      obtain ⟨u, e1, r1⟩ := ih.get j y e
      exact ⟨u, by rw [List.getElem?_set_ne hj]; exact e1, r1⟩
open Classical in
/-- what a comprehension makes: the store behind it, the items -/
noncomputable def cmpGo (own : Option (Nat × List PyData)) (g : Tg) (t : Tst) (e : Ex) (σ0 : Sg) : List PyData → List PyData → Sto → Option (Sto × List PyData)
  | [], acc, S => if gdOk own S then some (S, acc) else none
  | d :: ds, acc, S => if gdOk own S then (g d σ0).bind fun σ1 => match t σ1 S with
    | some (.ok true S1) => match e σ1 S1 with
      | some (.ok (.d x) S2) => if acc.length < sizeLine then cmpGo own g t e σ0 ds (acc ++ [x]) S2 else none
      | _ => none
    | some (.ok false S1) => cmpGo own g t e σ0 ds acc S1
    | _ => none
    else none
@[simp] noncomputable def eComp (w : Wl) (g : Tg) (t : Tst) (e : Ex) (vs : List Nat) (σ : Sg) (S : Sto) : Option (Res SV) := Res.bnd (w σ S) fun wk S1 => (cmpGo wk.own g t e (wipeS σ vs) wk.ds [] S1).map fun r => .ok (.d (.list r.2)) r.1
/-- no exception leaves a comprehension -/
def W0 : WX := fun _ _ _ _ => False
@[simp] def tTrue (_ : Sg) (S : Sto) : Option (Res Bool) := some (.ok true S)
theorem lc_go {X : Cx} {W : WX} {w : Wl} {g : Tg} {is vs : List Nat} {t : Tst} {e : Ex} (his : ∀ i ∈ is, i ∈ vs) {σV : L2.St} {H : Hp} {Q : VK} (h : TX X W (eComp w g t e vs) σV H Q) : tLc (TI_ X W w) (TG_ X g is) (TT_ X W0 t) (TX X W0 e) vs σV H Q := by
  obtain ⟨f, σ, S, r, hE, hS, hr, hq⟩ := h
  unfold eComp at hr
  cases e1 : w σ S with
  | none => rw [e1] at hr; cases hr
  | some q =>
  rw [e1] at hr
  refine ⟨f, σ, S, q, hE, hS, e1, ?_⟩
  cases q with
  | exc x S1 =>
    cases hr
    exact hq
  | ok wk S1 =>
  intro J H1 s1 k1 wks D hD
  rw [bnd_ok] at hr
  cases hc : cmpGo wk.own g t e (wipeS σ vs) wk.ds [] S1 with
  | none => rw [hc] at hr; cases hr
  | some fin =>
  rw [hc] at hr
  cases hr
  have hDo : D ∉ f.o := (s1.free hD).1
  refine ⟨fun i m Hh => m = wk.ds.length - i ∧ i ≤ wk.ds.length ∧ ∃ (S2 : Sto) (acc : List PyData) (va : List V), StoR X.K (f.ban D) S2 Hh ∧ Kp f H1 Hh ∧ Hh D = some (.lst va) ∧ IsAll X.K (f.ban D) Hh va acc ∧ cmpGo wk.own g t e (wipeS σ vs) (wk.ds.drop i) acc S2 = some fin,
    ⟨_, by rfl, Nat.zero_le _, S1, [], [], s1.ban hD, Kp.new hD, upd_same, .nil, hc⟩, ?_⟩
  rintro i m Hh ⟨rfl, hi, S2, acc, va, s2, k2, eD, ia, hgo⟩
  have eE : EnvR X.K (f.ban D) Hh (wipe σV vs) (wipeS σ vs) := (((hE.kp k1).keep k2.q (Gr.ban hD) (Pf.ban _ _)).wipe vs)
  by_cases hlt : i < wk.ds.length
  · right
    rw [List.drop_eq_getElem_cons hlt] at hgo
    unfold cmpGo at hgo
    split at hgo
    · rename_i hgd
      obtain ⟨go, yl⟩ := wks.item i _ (f.ban D) S2 Hh (List.getElem?_eq_getElem hlt) k2.q (Gr.ban hD) (Pf.ban _ _) s2 hgd
      cases hgs : g wk.ds[i] (wipeS σ vs) with
      | none => rw [hgs] at hgo; cases hgo
      | some σ1 =>
      rw [hgs] at hgo
      dsimp only [Option.bind_some] at hgo
      refine ⟨go, fun H' => (i + 1 ≤ wk.ds.length ∧ ∃ (S2 : Sto) (acc : List PyData) (va : List V), StoR X.K (f.ban D) S2 H' ∧ Kp f H1 H' ∧ H' D = some (.lst va) ∧ IsAll X.K (f.ban D) H' va acc ∧ cmpGo wk.own g t e (wipeS σ vs) (wk.ds.drop (i + 1)) acc S2 = some fin), fun H' h => ⟨_, by omega, rfl, h.1, h.2⟩, fun x H3 hy => ?_⟩
      obtain ⟨s3, k3, i3⟩ := yl x H3 hy
      refine ⟨f.ban D, wipeS σ vs, σ1, _, eE.kp k3, i3, hgs, fun σV3 e3 a3 => ⟨(wipe_agr a3 his).trans wipe_wipe, ?_⟩⟩
      cases ht : t σ1 S2 with
      | none => rw [ht] at hgo; cases hgo
      | some q =>
      rw [ht] at hgo
      refine ⟨f.ban D, σ1, S2, q, e3, s3, ht, ?_⟩
      cases q with
      | exc x S' => cases hgo
      | ok b S3 =>
      intro H4 s4 k4
      have kb : Kp f Hh H4 := k3.trans k4
      cases b with
      | false =>
        rw [if_neg Bool.false_ne_true]
        exact ⟨hlt, S3, acc, va, s4, k2.trans kb, kb D _ hDo eD, ia.keep (Kp.q (f := f.ban D) kb) (Gr.refl _ _), hgo⟩
      | true =>
        rw [if_pos rfl]
        dsimp only at hgo
        cases he : e σ1 S3 with
        | none => rw [he] at hgo; cases hgo
        | some q =>
        rw [he] at hgo
        refine ⟨f.ban D, σ1, S3, q, e3.kp k4, s4, he, ?_⟩
        cases q with
        | exc x S' => cases hgo
        | ok y S4 =>
        intro v H5 s5 k5 r5
        cases y with
        | r j => cases hgo
        | s ns => cases hgo
        | d y =>
        dsimp only at hgo
        split at hgo
        · rename_i hz
          have kc : Kp f Hh H5 := kb.trans k5
          have eD5 := kc D _ hDo eD
          have ia5 := ia.keep (Kp.q (f := f.ban D) kc) (Gr.refl _ _)
          refine ⟨va, eD5, by rw [ia.len]; exact hz, hlt, S4, acc ++ [y], va ++ [v], s5.sly eD5, fun a o na ea => ?_, upd_same, ?_, hgo⟩
          · rw [upd_ne (ne_of_none ea hD)]
            exact kc a o na (k2 a o na ea)
          · exact (ia5.keep Kq.sly (Gr.refl _ _)).app (.cons (Is.keep Kq.sly (Gr.refl _ _) r5) .nil)
        · cases hgo
    · cases hgo
  · left
    have hi2 : i = wk.ds.length := by omega
    subst hi2
    rw [List.drop_length] at hgo
    unfold cmpGo at hgo
    split at hgo
    · rename_i hgd
      cases hgo
      refine ⟨wks.stop _ (f.ban D) S2 Hh (Nat.le_refl _) k2.q (Gr.ban hD) (Pf.ban _ _) s2 hgd, ?_⟩
      exact hq _ Hh s2.unban (k1.trans k2) (Is.lst ⟨eD, s1.free hD⟩ (ia.keep (Kq.refl _ _) Gr.unban))
    · cases hgo
section
variable {X : Cx} {W : WX} {pos : Pos} {tg iter elt : Expr} {ifs : List Expr} {scope : Scope} {own : List (Str × Nat)} {w : Wl} {g : Tg} {t : Tst} {e : Ex} {is : List Nat}
def DTs (X : Cx) (ifs : List Expr) (t : Tst) : Prop := PTs X ifs (TT_ X W0 t)
theorem dts_nil {X : Cx} : DTs X [] tTrue := ⟨fun pins s σV H Q I ⟨f, σ, S, r, hE, hS, hr, hq⟩ => by
  cases hr
  exact pts_nil.run pins s σV H Q I (hq H hS (Kp.refl _ _))⟩
theorem dts_one {X : Cx} {c : Expr} {t : Tst} (h : DT X W0 c t) : DTs X [c] t := pts_one h
theorem de_comp (hc : X.calm = true) (hN : X.N.Nodup) (hi : DI X W tg iter w) (ok : BlkOk X.N X.env.scope scope own) (his : ∀ i ∈ is, i ∈ own.map (·.2))
    (hg : ∀ (s : Shared) (H : Hp) (C : Addr) (cl : List (Str × Addr)) (fp : List Addr), DG (X.blk s H scope (compEnvC scope cl C X.env) fp) tg g is) (ht : ∀ (s : Shared) (H : Hp) (C : Addr) (cl : List (Str × Addr)) (fp : List Addr), DTs (X.blk s H scope (compEnvC scope cl C X.env) fp) ifs t)
    (he : ∀ (s : Shared) (H : Hp) (C : Addr) (cl : List (Str × Addr)) (fp : List Addr), DE (X.blk s H scope (compEnvC scope cl C X.env) fp) W0 elt e) (hs : ∀ x, foldedSetIterable iter X.env x = pure x := by intro _; rfl) :
    DE X W (.ListComp elt [⟨tg, iter, ifs, 0⟩] scope pos) (eComp w g t e (own.map (·.2))) :=
  pe_imp (pe_lc (g := TG_ X g is) (tt := TT_ X W0 t) (te := TX X W0 e) hc hN hi ok hg ht he hs) fun _ _ _ h => lc_go his h
/-- y = [..] -/
theorem ds_setLc {i : Nat} {y : Str} {py spos : Pos} (hc : X.calm = true) (hN : X.N.Nodup) (hy : X.N[i]? = some y) (hyl : X.env.scope.names.lookup y = some .local)
    (hsw : swapsWith (.ListComp elt [⟨tg, iter, ifs, 0⟩] scope pos) (some (.Name y py)) spos.line X.env = pure true) (hi : DI X W tg iter w) (ok : BlkOk X.N X.env.scope scope own) (his : ∀ i ∈ is, i ∈ own.map (·.2))
    (hg : ∀ (s : Shared) (H : Hp) (C : Addr) (cl : List (Str × Addr)) (fp : List Addr), DG (X.blk s H scope (compEnvC scope cl C X.env) fp) tg g is) (ht : ∀ (s : Shared) (H : Hp) (C : Addr) (cl : List (Str × Addr)) (fp : List Addr), DTs (X.blk s H scope (compEnvC scope cl C X.env) fp) ifs t)
    (he : ∀ (s : Shared) (H : Hp) (C : Addr) (cl : List (Str × Addr)) (fp : List Addr), DE (X.blk s H scope (compEnvC scope cl C X.env) fp) W0 elt e) (hs : ∀ x, foldedSetIterable iter X.env x = pure x := by intro _; rfl) :
    DS X W (.Assign [.Name y py] (.ListComp elt [⟨tg, iter, ifs, 0⟩] scope pos) spos) (sSet i (eComp w g t e (own.map (·.2)))) :=
  ps_imp (ps_setLc (g := TG_ X g is) (tt := TT_ X W0 t) (te := TX X W0 e) hc hN hy hyl hsw hi ok hg ht he hs) fun D σV H ⟨f, σ, S, r, hE, hS, hr, hf⟩ => by
    refine lc_go his ?_
    refine TX.stm hE hS hr hf fun v S1 u H1 h1 f1 s1 k1 e1 r1 => ?_
    cases h1
    exact ReS.now f1 s1 (e1.set i r1)
end

/-! ## while -/
def whGo (c : Tst) (b : Sm) : Nat → Sm
  | 0 => fun _ _ => none
  | n + 1 => fun σ S => Sm.bnd (c σ S) fun x S1 => if x = true then match b σ S1 with
    | some (.nx σ2 S2) => whGo c b n σ2 S2
    | some (.ct σ2 S2) => whGo c b n σ2 S2
    | some (.bk σ2 S2) => some (.nx σ2 S2)
    | some (.rt v S2) => some (.rt v S2)
    | some (.exc x S2) => some (.exc x S2)
    | none => none
    else some (.nx σ S1)
theorem ds_while {X : Cx} {W : WX} {pos : Pos} {c : Expr} {body : List Stmt} {tc : Tst} {m : Sm} (n : Nat) (hp : PassesOwn (model X.prog X.w) X.A X.env X.xe) (hc : DT X W c tc) (hb : DB X W body m) : DS X W (.While c body [] pos) (whGo tc m n) :=
  ps_imp (ps_while hp hc hb) fun D σV H ⟨f, σ, S, r, hE, hS, hr, hf⟩ => by
    refine ⟨fun n σV2 H2 => ∃ (ex : List Addr) (σ2 : Sg) (S2 : Sto), Kp f H H2 ∧ (∀ a ∈ ex, H a = none) ∧ EnvR X.K (f.add ex) H2 σV2 σ2 ∧ StoR X.K (f.add ex) S2 H2 ∧ whGo tc m n σ2 S2 = some r ∧ Fl X W (f.add ex) H2 D r,
      ⟨n, [], σ, S, Kp.refl _ _, (fun _ z => nomatch z), by rw [Ow.add_nil]; exact hE, by rw [Ow.add_nil]; exact hS, hr, by rw [Ow.add_nil]; exact hf⟩, ?_⟩
    rintro n σV2 H2 ⟨ex, σ2, S2, k2, n2, e2, s2, r2, f2⟩
    cases n with
    | zero => cases r2
    | succ n =>
    unfold whGo at r2
    refine TT_.stm e2 s2 r2 f2 fun x S3 H3 h3 f3 s3 k3 e3 => ?_
    have k23 : Kp f H H3 := Kp.more n2 k2 k3
    cases x with
    | false =>
      rw [if_neg Bool.false_ne_true] at h3 ⊢
      cases h3
      exact ReS.now f3 s3 e3
    | true =>
      rw [if_pos rfl] at h3 ⊢
      cases hm : m σ2 S3 with
      | none => rw [hm] at h3; cases h3
      | some q =>
      rw [hm] at h3
      refine ⟨fun σV' H' => ∃ (ex : List Addr) (σ2 : Sg) (S2 : Sto), Kp f H H' ∧ (∀ a ∈ ex, H a = none) ∧ EnvR X.K (f.add ex) H' σV' σ2 ∧ StoR X.K (f.add ex) S2 H' ∧ whGo tc m n σ2 S2 = some r ∧ Fl X W (f.add ex) H' D r, fun σV' H' h => ⟨n, Nat.lt_succ_self n, h⟩, f.add ex, σ2, S3, q, e3, s3, hm, ?_⟩
      have next : ∀ (σ' : Sg) (S' : Sto), whGo tc m n σ' S' = some r → ReS X (f.add ex) H3 σ' S' (fun σV' H' => ∃ (ex : List Addr) (σ2 : Sg) (S2 : Sto), Kp f H H' ∧ (∀ a ∈ ex, H a = none) ∧ EnvR X.K (f.add ex) H' σV' σ2 ∧ StoR X.K (f.add ex) S2 H' ∧ whGo tc m n σ2 S2 = some r ∧ Fl X W (f.add ex) H' D r) := by
        intro σ' S' hgo ex' σV' H' n' s' k' e'
        exact ⟨ex ++ ex', σ', S', Kp.more n2 k23 k', fresh_app (X := X) n2 s3 k23 s3.all n', by rw [← Ow.add_add]; exact e', by rw [← Ow.add_add]; exact s', hgo, by rw [← Ow.add_add]; exact f3.step n' s' k'⟩
      cases q with
      | nx σ' S' => exact next σ' S' h3
      | ct σ' S' => exact next σ' S' h3
      | bk σ' S' => cases h3; exact f3
      | rt v S' => cases h3; exact f3
      | exc x S' => cases h3; exact f3
end Z
set_option maxRecDepth 100000
namespace Z
open PySem PySem.Spec PyProof.Rows L2

theorem Gd.blk {X : Cx} {W : WX} {k : Nat} (g : Gd X W k) (s : Shared) (H : Hp) (scope : Scope) (ce : Env) (fp : List Addr) : Gd (X.blk s H scope ce fp) W0 k :=
  ⟨g.hr, g.gd, g.calm, g.nd, fun u s' ⟨a, B, sI, pins, σ, H, cls, d, e, I, nb, up, sky, na, os, ag, w⟩ => w.elim, PassesOwn.never⟩

/-! ## defs -/
inductive FR where
  | ok (v : SV) (S : Sto)
  | nw (o : Ob) (S : Sto)
  | exc (x : Exn) (S : Sto)
abbrev Fn := List SV → Sto → Option FR
def SpG (K : PySem.W.Frag) (mg : Str → Option Value) (g : Fn) : Sp := fun vs H Q E => ∃ (f : Ow) (S : Sto) (svs : List SV) (r : FR), StoR K f S H ∧ Paired (SvR K f H) vs svs ∧ g svs S = some r ∧
  match r with
  | .ok sv S' => ∀ (v : V) (H' : Hp), StoR K f S' H' → Kp f H H' → SvR K f H' v sv → Q v H'
  | .nw ob S' => ∀ (p : Addr) (H' : Hp), H p = none → StoR K (f.add [p]) (S' ++ [ob]) H' → Kp f H H' → Q (.ref p) H'
  | .exc x S' => ∀ (cls : Value) (d : Option Addr) (H' : Hp), StoR K f S' H' → Kp f H H' → ExR K mg f H' cls d x → E cls d H'
/-- the def x of the module does what g says, in k calls' room -/
structure FnG (P : Program) (w : World) (K : PySem.W.Frag) (mg : Str → Option Value) (base : Heap) (k : Nat) (x : Str) (g : Fn) : Prop where
  ex : ∃ f : Addr, mg x = some (.ref f) ∧ PySem.W.keepIn K (.ref f) = true ∧
    ∀ (A : Around) (outer : List Env) (s : Shared) (H : Hp) (us : List Value) (vs : List V) (Q : VK) (E : XK), Room k A → A.guards = some [] → Env0 P w K mg base A outer s H → Vals vs us → SpG K mg g vs H Q E →
      codeAny (model P w) A (.call (.ref f) ⟨us, []⟩) (CR (CX P w) outer P w H s Q E) s
theorem FnG.mono {P : Program} {w : World} {K : PySem.W.Frag} {mg : Str → Option Value} {base : Heap} {j k : Nat} {x : Str} {g : Fn} (F : FnG P w K mg base j x g) (h : j ≤ k) : FnG P w K mg base k x g :=
  let ⟨f, a, b, c⟩ := F.ex
  ⟨f, a, b, fun A outer s H us vs Q E hr => c A outer s H us vs Q E (hr.mono h)⟩
/-- less may be said -/
theorem FnG.less {P : Program} {w : World} {K : PySem.W.Frag} {mg : Str → Option Value} {base : Heap} {k : Nat} {x : Str} {g g' : Fn} (F : FnG P w K mg base k x g) (h : ∀ a S r, g' a S = some r → g a S = some r) : FnG P w K mg base k x g' :=
  let ⟨f, a, b, c⟩ := F.ex
  ⟨f, a, b, fun A outer s H us vs Q E hr hg e0 r ⟨fo, S, svs, q, s1, p, e, z⟩ => c A outer s H us vs Q E hr hg e0 r ⟨fo, S, svs, q, s1, p, h _ _ _ e, z⟩⟩

@[simp] def eCall (g : Fn) (as : Exs) (σ : Sg) (S : Sto) : Option (Res SV) := Res.bnd (as σ S) fun xs S1 => match g xs S1 with
  | some (.ok v S2) => some (.ok v S2)
  | some (.nw (.lst ds) S2) => some (.ok (.d (.list ds)) S2)
  | some (.exc x S2) => some (.exc x S2)
  | _ => none
@[simp] def nCall (g : Fn) (as : Exs) (σ : Sg) (S : Sto) : Option (Res Ob) := Res.bnd (as σ S) fun xs S1 => match g xs S1 with
  | some (.nw o S2) => some (.ok o S2)
  | some (.exc x S2) => some (.exc x S2)
  | _ => none
section
variable {X : Cx} {W : WX} {k : Nat} {x : Str} {g : Fn} {p0 pos : Pos} {a : Expr} {es : List Expr} {fs : Exs}
def tCallG (X : Cx) (W : WX) (sp : Sp) (t : TA) : TE := fun σ H Q => t σ H fun vs H1 => sp vs H1 Q (fun cls d H' => W cls d σ H')
theorem run_g {sp : Sp} {f : Addr} (G : Gd X W k)
    (run : ∀ (A : Around) (outer : List Env) (s : Shared) (H : Hp) (us : List Value) (vs : List V) (Q : VK) (E : XK), Room k A → A.guards = some [] → Env0 X.prog X.w X.K X.mg X.base A outer s H → Vals vs us → sp vs H Q E →
      codeAny (model X.prog X.w) A (.call (.ref f) ⟨us, []⟩) (CR (CX X.prog X.w) outer X.prog X.w H s Q E) s)
    {pins : List (Addr × Obj)} {σ : L2.St} {H : Hp} {s : Shared} {Q : VK} {us : List Value} {vs : List V} (I : Inv X pins σ H s) (r : Vals vs us) (h : sp vs H Q (fun cls d H' => W cls d σ H')) :
    wpAny (model X.prog X.w) X.A (call (.ref f) us) (EP X pins σ Q) X.xe s := by
  refine wpAny_call (codeAny_mono (run X.A X.stack s H us vs Q _ G.hr G.gd I.env0 r h) fun r s' hq => ?_)
  cases r with
  | error e => exact G.tk e s' (XE.of_call I (fun _ _ _ z => z) hq)
  | ok fl =>
    cases fl with
    | ret u => exact I.after hq
    | next => exact hq.elim
    | brk => exact hq.elim
    | cont => exact hq.elim
theorem pe_g {sp : Sp} {f : Addr} {t : TA} (G : Gd X W k)
    (run : ∀ (A : Around) (outer : List Env) (s : Shared) (H : Hp) (us : List Value) (vs : List V) (Q : VK) (E : XK), Room k A → A.guards = some [] → Env0 X.prog X.w X.K X.mg X.base A outer s H → Vals vs us → sp vs H Q E →
      codeAny (model X.prog X.w) A (.call (.ref f) ⟨us, []⟩) (CR (CX X.prog X.w) outer X.prog X.w H s Q E) s)
    (hg : Gl X x) (hm : X.mg x = some (.ref f)) (hk : PySem.W.keepIn X.K (.ref f) = true) (ha : PA X (a :: es) t) (hdb : (x == ("__debug__" : Str)) = false)
    (he : starEach (a :: es) X.env = (false, eval a X.env) :: starEach es X.env) (hpl : (backTo pos (starEach es X.env)).any (·.1) = false) : PE X (.Call (.Name x p0) (a :: es) [] pos) (tCallG X W sp t) := by
  refine ⟨fun pins s σ H Q I h => wpAny_Call_Name_kw (ld_glob I hg hm ?_ hdb)⟩
  exact PySem.W.callWith_K (h₀ := X.base) I.ok.mod.kin hk (thn (ha.run pos pins s σ H _ I h) fun us s1 ⟨vs, H1, I1, r, q⟩ => ⟨I1.kIn, run_g G run I1 r q⟩) he hpl
theorem pe_g0 {sp : Sp} {f : Addr} (G : Gd X W k)
    (run : ∀ (A : Around) (outer : List Env) (s : Shared) (H : Hp) (us : List Value) (vs : List V) (Q : VK) (E : XK), Room k A → A.guards = some [] → Env0 X.prog X.w X.K X.mg X.base A outer s H → Vals vs us → sp vs H Q E →
      codeAny (model X.prog X.w) A (.call (.ref f) ⟨us, []⟩) (CR (CX X.prog X.w) outer X.prog X.w H s Q E) s)
    (hg : Gl X x) (hm : X.mg x = some (.ref f)) (hk : PySem.W.keepIn X.K (.ref f) = true) (hdb : (x == ("__debug__" : Str)) = false) : PE X (.Call (.Name x p0) [] [] pos) (tCallG X W sp tNil) := by
  refine ⟨fun pins s σ H Q I h => wpAny_Call_Name_kw (ld_glob I hg hm ?_ hdb)⟩
  exact PySem.W.callWith_K0 I.kIn hk (run_g (us := []) G run I .nil h)
theorem call_go {σV : L2.St} {H : Hp} {Q : VK} (h : TX X W (eCall g fs) σV H Q) : tCallG X W (SpG X.K X.mg g) (TXs X W fs) σV H Q := by
  obtain ⟨f, σ, S, r, hE, hS, hr, hq⟩ := h
  refine TXs.first hE hS hr (exc_way hq) fun xs S1 vs H1 _ h1 s1 k1 e1 r1 => ?_
  cases hg : g xs S1 with
  | none => rw [hg] at h1; cases h1
  | some q =>
  rw [hg] at h1
  refine ⟨f, S1, xs, q, s1, r1, hg, ?_⟩
  cases q with
  | ok v S2 =>
    cases h1
    exact fun u H2 s2 k2 r2 => hq u H2 s2 (k1.trans k2) r2
  | nw o S2 =>
    cases o with
    | dct kvs => cases h1
    | lst ds =>
      cases h1
      intro p H2 np s2 k2
      have hp : p ∉ f.o ∧ p ∉ f.g := s1.free np
      have cut := s2.cut
      have hl : f.o.length = S2.length := by
        have := s2.len
        simp [Ow.add] at this
        exact this
      rw [hl, List.take_append_of_le_length (Nat.le_refl _), List.take_length] at cut
      obtain ⟨vs2, e2, i2⟩ := s2.at_ S2.length (.lst ds) p (by simp) (by show (f.o ++ [p])[S2.length]? = some p; rw [← hl]; simp)
      exact hq _ H2 cut (k1.trans k2) (Is.lst ⟨e2, hp⟩ (i2.keep (Kq.refl _ _) Gr.sub))
  | exc y S2 =>
    cases h1
    exact fun cls d H2 s2 k2 r2 => hq cls d H2 s2 (k1.trans k2) r2
theorem ncall_go {σV : L2.St} {H : Hp} {Q : VK} (h : TN X W (nCall g fs) σV H Q) : tCallG X W (SpG X.K X.mg g) (TXs X W fs) σV H Q := by
  obtain ⟨f, σ, S, r, hE, hS, hr, hq⟩ := h
  refine TXs.first hE hS hr (fun x S' e => by subst e; exact hq) fun xs S1 vs H1 _ h1 s1 k1 e1 r1 => ?_
  cases hg : g xs S1 with
  | none => rw [hg] at h1; cases h1
  | some q =>
  rw [hg] at h1
  refine ⟨f, S1, xs, q, s1, r1, hg, ?_⟩
  cases q with
  | ok v S2 => cases h1
  | nw o S2 =>
    cases h1
    intro p H2 np s2 k2
    have nH : H p = none := by
      cases eH : H p with
      | none => rfl
      | some o =>
        have z := k1 p o (s1.free np).1 eH
        rw [np] at z; cases z
    exact hq p H2 nH s2 (k1.trans k2)
  | exc y S2 =>
    cases h1
    exact fun cls d H2 s2 k2 r2 => hq cls d H2 s2 (k1.trans k2) r2
theorem de_call (G : Gd X W k) (F : FnG X.prog X.w X.K X.mg X.base k x g) (ha : DA X W (a :: es) fs) (hg : Gl X x := by rfl) (hdb : (x == ("__debug__" : Str)) = false := by decide)
    (he : starEach (a :: es) X.env = (false, eval a X.env) :: starEach es X.env := by rfl) (hpl : (backTo pos (starEach es X.env)).any (·.1) = false := by rfl) : DE X W (.Call (.Name x p0) (a :: es) [] pos) (eCall g fs) := by
  obtain ⟨f, hm, hk, run⟩ := F.ex
  exact pe_imp (pe_g G run hg hm hk ha hdb he hpl) fun _ _ _ h => call_go h
theorem de_call0 (G : Gd X W k) (F : FnG X.prog X.w X.K X.mg X.base k x g) (hg : Gl X x := by rfl) (hdb : (x == ("__debug__" : Str)) = false := by decide) : DE X W (.Call (.Name x p0) [] [] pos) (eCall g esNil) := by
  obtain ⟨f, hm, hk, run⟩ := F.ex
  refine pe_imp (pe_g0 G run hg hm hk hdb) fun σV H Q h => ?_
  obtain ⟨f, σ, S, r, hE, hS, hr, hq⟩ := call_go (W := W) h
  cases hr
  exact hq [] H hS (Kp.refl _ _) .nil
theorem dn_call (G : Gd X W k) (F : FnG X.prog X.w X.K X.mg X.base k x g) (ha : DA X W (a :: es) fs) (hg : Gl X x := by rfl) (hdb : (x == ("__debug__" : Str)) = false := by decide)
    (he : starEach (a :: es) X.env = (false, eval a X.env) :: starEach es X.env := by rfl) (hpl : (backTo pos (starEach es X.env)).any (·.1) = false := by rfl) : DN X W (.Call (.Name x p0) (a :: es) [] pos) (nCall g fs) := by
  obtain ⟨f, hm, hk, run⟩ := F.ex
  exact pe_imp (pe_g G run hg hm hk ha hdb he hpl) fun _ _ _ h => ncall_go h
end

/-- a def by its body; n: how many names beside the parameters -/
@[simp] def fnRun (n : Nat) (m : Sm) (args : List SV) (S : Sto) : Option FR := match m (args.map some ++ List.replicate n none) S with
  | some (.nx _ S') => some (.ok (.d .none) (S'.take S.length))
  | some (.rt (.d x) S') => some (.ok (.d x) (S'.take S.length))
  | some (.rt (.r i) S') => if i < S.length then some (.ok (.r i) (S'.take S.length)) else (S'[i]?).map fun o => .nw o (S'.take S.length)
  | some (.exc x S') => some (.exc x (S'.take S.length))
  | _ => none
theorem pkeep {K : PySem.W.Frag} {f : Ow} {H H' : Hp} {vs : List V} {svs : List SV} (h : Paired (SvR K f H) vs svs) (k : Kp f H H') : Paired (SvR K f H') vs svs := Paired.mapP h fun _ _ r => r.kp k
theorem papp {α β : Type} {R : α → β → Prop} : ∀ {a b : List α} {c d : List β}, Paired R a c → Paired R b d → Paired R (a ++ b) (c ++ d)
  | _, _, _, _, .nil, s => s
  | _, _, _, _, .cons r t, s => .cons r (papp t s)
theorem start_env {K : PySem.W.Frag} {f : Ow} {H : Hp} {N : List Str} {n : Nat} {vs : List V} {svs : List SV} (h : Paired (SvR K f H) vs svs) (hn : N.length - vs.length = n) : EnvR K f H (L2.start N vs) (svs.map some ++ List.replicate n none) := by
  have hl := Paired.length h
  refine ⟨by simp [L2.start, hl, ← hn], fun i x e => ?_⟩
  by_cases hi : i < svs.length
  · rw [List.getElem?_append_left (by simpa using hi), List.getElem?_map, List.getElem?_eq_getElem hi] at e
    cases e
    have : ∀ {vs : List V} {svs : List SV} {i : Nat} (hi : i < svs.length), Paired (SvR K f H) vs svs → ∃ v, vs[i]? = some v ∧ SvR K f H v svs[i] := by
      intro vs svs
      induction svs generalizing vs with
      | nil => intro i hi; cases hi
      | cons y ys ih =>
        intro i hi p
        cases p with
        | cons p q =>
          cases i with
          | zero => exact ⟨_, rfl, p⟩
          | succ i =>
            obtain ⟨v, e1, r1⟩ := ih (i := i) (by simpa using hi) q
            exact ⟨v, by simpa using e1, r1⟩
    obtain ⟨v, e1, r1⟩ := this hi h
    refine ⟨v, ?_, r1⟩
    unfold L2.start
    rw [List.getElem?_append_left (by simpa [hl] using hi), List.getElem?_map, e1]
    rfl
  · rw [List.getElem?_append_right (by simpa using hi), List.getElem?_replicate] at e
    split at e <;> cases e
section
variable {P : Program} {w : World} {K : PySem.W.Frag} {mg : Str → Option Value} {base : Heap} {k n : Nat} {x : Str} {st : Stmt} {f : Addr} {fd : FuncData} {N ps : List Str} {m : Sm}
/-- the context of a def's body -/
abbrev Xo (P : Program) (w : World) (K : PySem.W.Frag) (mg : Str → Option Value) (base : Heap) (N : List Str) (qual : Str) (st : Stmt) (f : Addr) (cdv : Value) (A : Around) (outer : List Env) (s : Shared) (H : Hp) (E : XK) : Cx :=
  cxOf (CX P w) P w K mg base N qual (defScope st) f cdv A outer s H E
abbrev Wo (E : XK) : WX := fun cls d _ H => E cls d H
theorem body_end {X : Cx} {W : WX} {fo : Ow} {S : Sto} {svs : List SV} {H : Hp} {Q : VK} {E : XK} {r : FR} {q : Flow} (hW : ∀ cls d σ H, E cls d H → W cls d σ H) (hS : StoR X.K fo S H)
    (hr : (match some q with
      | some (.nx _ S') => some (FR.ok (.d .none) (S'.take S.length))
      | some (.rt (.d x) S') => some (.ok (.d x) (S'.take S.length))
      | some (.rt (.r i) S') => if i < S.length then some (.ok (.r i) (S'.take S.length)) else (S'[i]?).map fun o => .nw o (S'.take S.length)
      | some (.exc x S') => some (.exc x (S'.take S.length))
      | _ => none) = some r)
    (hq : match (generalizing := false) r with
      | .ok sv S' => ∀ (v : V) (H' : Hp), StoR X.K fo S' H' → Kp fo H H' → SvR X.K fo H' v sv → Q v H'
      | .nw ob S' => ∀ (p : Addr) (H' : Hp), H p = none → StoR X.K (fo.add [p]) (S' ++ [ob]) H' → Kp fo H H' → Q (.ref p) H'
      | .exc x S' => ∀ (cls : Value) (d : Option Addr) (H' : Hp), StoR X.K fo S' H' → Kp fo H H' → ExR X.K X.mg fo H' cls d x → E cls d H') :
    Fl X W fo H { nx := fun _ H' => Q .non H', rt := Q } q := by
  cases q with
  | nx σ' S' =>
    cases hr
    intro ex σV H' n1 s1 k1 _
    have c := s1.cut
    rw [hS.len] at c
    exact hq .non H' c k1 Is.non
  | rt v S' =>
    cases v with
    | d y =>
      cases hr
      intro ex u H' n1 s1 k1 r1
      have c := s1.cut
      rw [hS.len] at c
      exact hq u H' c k1 (Is.keep (Kq.refl _ _) Gr.sub r1)
    | s ns => cases hr
    | r i =>
      intro ex u H' n1 s1 k1 r1
      obtain ⟨a, ea, rfl⟩ := r1
      have c := s1.cut
      rw [hS.len] at c
      dsimp only at hr
      split at hr
      · rename_i hi
        cases hr
        have ea : (fo.o ++ ex)[i]? = some a := ea
        rw [List.getElem?_append_left (by rw [hS.len]; exact hi)] at ea
        exact hq _ H' c k1 ⟨a, ea, rfl⟩
      · rename_i hi
        cases eo : S'[i]? with
        | none => rw [eo] at hr; cases hr
        | some o =>
        rw [eo] at hr
        cases hr
        have ea : (fo.o ++ ex)[i]? = some a := ea
        have q1 := s1.cut1 eo ea (by rw [hS.len]; omega)
        rw [hS.len] at q1
        refine hq a H' (n1 a ?_) q1 k1
        rw [List.getElem?_append_right (by rw [hS.len]; omega)] at ea
        exact List.mem_of_getElem? ea
  | bk σ' S' => cases hr
  | ct σ' S' => cases hr
  | exc y S' =>
    cases hr
    intro ex cls d σV H' n1 s1 k1 r1
    have c := s1.cut
    rw [hS.len] at c
    refine hW _ _ _ _ (hq cls d H' c k1 ⟨r1.1, ?_⟩)
    have r2 := r1.2
    split
    · trivial
    · rename_i nm dd e
      rw [e] at r2
      obtain ⟨da, v, e1, e2, e3, e4⟩ := r2
      exact ⟨da, v, e1, e2, Ow.no_of_add e3, Is.keep (Kq.refl _ _) Gr.sub e4⟩
theorem fn_def {qual : Str} (F : Fun K x qual st f fd) (hm : mg x = some (.ref f)) (sc : FnScope N ps (defScope st)) (hn : N.length - ps.length = n)
    (bd : ∀ (kV doc pm : Value) (an : Option Addr) (cdv ct : Value) (us : List Value), us.length = ps.length → bindArgs (PySem.W.fnOf x qual (defArgs st) (defBody st) (defScope st) .none kV doc pm an cdv ct) ⟨us, []⟩ = pure (ps.zip us))
    (hb : ∀ (cdv : Value) (A : Around) (outer : List Env) (s : Shared) (H : Hp) (E : XK), Gd (Xo P w K mg base N qual st f cdv A outer s H E) (Wo E) k → DB (Xo P w K mg base N qual st f cdv A outer s H E) (Wo E) (defBody st) m) :
    FnG P w K mg base (k + 1) x (fun args S => if args.length = ps.length then fnRun n m args S else none) := by
  obtain ⟨oc, od, kV, doc, pm, an, cdv, ct, osl, rfl, lk, hcd⟩ := F.ex
  refine ⟨f, hm, F.kp, fun A outer s H us vs Q E hr hg e0 rv ⟨fo, S, svs, r, hS, hp, hgr, hq⟩ => ?_⟩
  have hgr : (if svs.length = ps.length then fnRun n m svs S else none) = some r := hgr
  split at hgr
  · rename_i hl
    have hl2 : vs.length = ps.length := (Paired.length hp).trans hl
    have hl3 : us.length = ps.length := rv.length.symm.trans hl2
    refine StX.run_bnd (CX := CX P w) (G := fun vs' H2 => vs' = vs ∧ H2 = H) lk hcd sc hr e0 (fun A' Ex Q' h => ?_) fun s2 H2 vs' ⟨e1, e2⟩ hr2 => ?_
    · rw [bd kV doc pm an cdv ct us hl3]
      exact wpAny_pure (h s H vs us e0 Un.refl rfl (fun _ _ z => z) rv hl2 ⟨rfl, rfl⟩)
    · subst e1 e2
      have G : Gd (Xo P w K mg base N qual st f cdv A outer s2 H2 E) (Wo E) k := ⟨hr2, hg, rfl, sc.nd, takes_of rfl rfl rfl rfl, passes_of rfl⟩
      refine ⟨_, hb cdv A outer s2 H2 E G, ?_⟩
      unfold fnRun at hgr
      cases hmm : m (svs.map some ++ List.replicate n none) S with
      | none => rw [hmm] at hgr; cases hgr
      | some q =>
        rw [hmm] at hgr
        exact ⟨fo, _, S, q, start_env hp (by rw [hl2]; exact hn), hS, hmm, body_end (X := Xo P w K mg base N qual st f cdv A outer s2 H2 E) (svs := svs) (fun _ _ _ _ z => z) hS hgr hq⟩
  · cases hgr
/-- def x(a, .., *v) -/
theorem fn_star {qual pv : Str} (F : Fun K x qual st f fd) (hm : mg x = some (.ref f)) (sc : FnScope N (ps ++ [pv]) (defScope st)) (hn : N.length - (ps.length + 1) = n)
    (bd : ∀ (kV doc pm : Value) (an : Option Addr) (cdv ct : Value) (us rest : List Value), us.length = ps.length → bindArgs (PySem.W.fnOf x qual (defArgs st) (defBody st) (defScope st) .none kV doc pm an cdv ct) ⟨us ++ rest, []⟩ = (newTuple rest >>= fun t => pure (ps.zip us ++ [(pv, t)])))
    (hb : ∀ (cdv : Value) (A : Around) (outer : List Env) (s : Shared) (H : Hp) (E : XK), Gd (Xo P w K mg base N qual st f cdv A outer s H E) (Wo E) k → DB (Xo P w K mg base N qual st f cdv A outer s H E) (Wo E) (defBody st) m) :
    FnG P w K mg base (k + 1) x (fun args S => if ps.length ≤ args.length then (dats (args.drop ps.length)).bind fun ds => if ds.length ≤ sizeLine then fnRun n m (args.take ps.length ++ [.d (.tuple ds)]) S else none else none) := by
  obtain ⟨oc, od, kV, doc, pm, an, cdv, ct, osl, rfl, lk, hcd⟩ := F.ex
  refine ⟨f, hm, F.kp, fun A outer s H us vs Q E hr hg e0 rv ⟨fo, S, svs, r, hS, hp, hgr, hq⟩ => ?_⟩
  have hgr : (if ps.length ≤ svs.length then (dats (svs.drop ps.length)).bind fun ds => if ds.length ≤ sizeLine then fnRun n m (svs.take ps.length ++ [.d (.tuple ds)]) S else none else none) = some r := hgr
  split at hgr
  · rename_i hl
    cases ed : dats (svs.drop ps.length) with
    | none => rw [ed] at hgr; cases hgr
    | some ds =>
    rw [ed] at hgr
    dsimp only [Option.bind_some] at hgr
    split at hgr
    · rename_i hz
      have hpd : ∀ {vs : List V} {svs : List SV} (i : Nat), Paired (SvR K fo H) vs svs → Paired (SvR K fo H) (vs.drop i) (svs.drop i) ∧ Paired (SvR K fo H) (vs.take i) (svs.take i) := by
        intro vs svs i p
        induction p generalizing i with
        | nil => rw [List.drop_nil, List.take_nil, List.drop_nil, List.take_nil]; exact ⟨.nil, .nil⟩
        | cons a b ih =>
          cases i with
          | zero => exact ⟨.cons a b, .nil⟩
          | succ i => exact ⟨(ih i).1, .cons a (ih i).2⟩
      obtain ⟨hp1, hp2⟩ := hpd ps.length hp
      have hrest := dats_is ed hp1
      have hvl : vs.length = svs.length := Paired.length hp
      have hul : us.length = svs.length := rv.length.symm.trans hvl
      have rv1 : Vals (vs.take ps.length) (us.take ps.length) := rv.take _
      have rv2 : Vals (vs.drop ps.length) (us.drop ps.length) := rv.drop _
      have hul1 : (us.take ps.length).length = ps.length := by rw [List.length_take]; omega
      have hvl1 : (vs.take ps.length).length = ps.length := by rw [List.length_take]; omega
      have hz2 : (us.drop ps.length).length ≤ sizeLine := by rw [← rv2.length, hrest.len]; exact hz
      have hfree : H s.heap.objs.size = none := e0.hok.fresh (Nat.le_refl _)
      refine StX.run_bnd (CX := CX P w) (G := fun vs' H2 => ∃ p, H p = none ∧ vs' = vs.take ps.length ++ [V.ref p] ∧ H2 = upd H p (.tup (vs.drop ps.length))) lk hcd sc hr e0 (fun A' Ex Q' h => ?_) fun s2 H2 vs' ⟨p, np, e1, e2⟩ hr2 => ?_
      · rw [← List.take_append_drop ps.length us, bd kV doc pm an cdv ct _ _ hul1]
        refine wpAny_bind (wpAny_newTuple (wpAny_pure ?_) hz2)
        have new : ObjOk P w (upd H s.heap.objs.size (.tup (vs.drop ps.length))) (s.heap.push ({ cls := .type "tuple", data := .seq (us.drop ps.length).toArray } : Obj)) s.heap.objs.size (.tup (vs.drop ps.length)) :=
          ⟨by rw [rv2.length]; exact hz2, _, rv2, ⟨_, Heap.get?_push_size _ rfl, rfl, _, rfl⟩⟩
        have un := StX.un_laid (fs := frs outer) (s := s) (o := ({ cls := .type "tuple", data := .seq (us.drop ps.length).toArray } : Obj)) (u := .tup (vs.drop ps.length)) hfree
        have q := h _ _ (vs.take ps.length ++ [V.ref s.heap.objs.size]) (us.take ps.length ++ [Value.ref s.heap.objs.size]) (StX.env0_laid e0 new) un rfl (fun e s' => StX.cxUp outer s H _ _ E e s' un (fun b o q => Heap.get?_push_of_some _ q) rfl)
          (rv1.append (.cons rfl .nil)) (by simp; omega) ⟨_, hfree, rfl, rfl⟩
        rw [List.zip_append hul1.symm] at q
        exact q
      · subst e1 e2
        have G : Gd (Xo P w K mg base N qual st f cdv A outer s2 (upd H p (.tup (vs.drop ps.length))) E) (Wo E) k := ⟨hr2, hg, rfl, sc.nd, takes_of rfl rfl rfl rfl, passes_of rfl⟩
        refine ⟨_, hb cdv A outer s2 _ E G, ?_⟩
        unfold fnRun at hgr
        cases hmm : m ((svs.take ps.length ++ [SV.d (.tuple ds)]).map some ++ List.replicate n none) S with
        | none => rw [hmm] at hgr; cases hgr
        | some q =>
          rw [hmm] at hgr
          have hS2 := hS.laid (o := .tup (vs.drop ps.length)) np
          have kp : Kp fo H (upd H p (.tup (vs.drop ps.length))) := Kp.new np
          have pr : Paired (SvR K fo (upd H p (.tup (vs.drop ps.length)))) (vs.take ps.length ++ [V.ref p]) (svs.take ps.length ++ [SV.d (.tuple ds)]) :=
            papp (pkeep hp2 kp) (.cons (Is.tup (.inl ⟨.inl upd_same, hS.free np⟩) (hrest.keep kp.q (Gr.refl _ _))) .nil)
          refine ⟨fo, _, S, q, start_env pr (by simp; omega), hS2, hmm, ?_⟩
          refine body_end (X := Xo P w K mg base N qual st f cdv A outer s2 (upd H p (.tup (vs.drop ps.length))) E) (svs := svs) (r := r) (Q := Q) (fun _ _ _ _ z => z) hS2 hgr ?_
          cases r with
          | ok sv S' => exact fun v H' s' k' r' => hq v H' s' (kp.trans k') r'
          | nw ob S' =>
            intro p' H' np' s' k'
            refine hq p' H' ?_ s' (kp.trans k')
            cases eH : H p' with
            | none => rfl
            | some o =>
              have z := kp p' o (hS2.free np').1 eH
              rw [np'] at z; cases z
          | exc y S' => exact fun cls d H' s' k' r' => hq cls d H' s' (kp.trans k') r'
    · cases hgr
  · cases hgr
end
end Z
set_option maxRecDepth 100000
namespace Z
open PySem PySem.Spec PyProof.Rows L2

/-! ## operators on ints -/
@[simp] def iop (g : Int → Int → Option Int) : SV → SV → Sto → Option SV
  | .d (.int i), .d (.int j), _ => (g i j).map fun k => .d (.int k)
  | _, _, _ => none
@[simp] def irel (g : Int → Int → Bool) : SV → SV → Sto → Option SV
  | .d (.int i), .d (.int j), _ => some (.d (.bool (g i j)))
  | _, _, _ => none
section
variable {X : Cx}
theorem opk_int {C : Int → Int → Prop} {h : Int → Int → Int} {g : Int → Int → Option Int} (hg : ∀ i j k, g i j = some k → C i j ∧ k = h i j) : OpK X (rI C fun i j => .int (h i j)) (iop g) := by
  intro f S H vx vy x y z Q hS rx ry hp hq
  unfold iop at hp
  split at hp
  · rename_i i j
    cases e : g i j with
    | none => rw [e] at hp; cases hp
    | some k =>
      rw [e] at hp
      cases hp
      cases rx
      cases ry
      obtain ⟨hc, rfl⟩ := hg i j k e
      exact ⟨i, j, rfl, rfl, hc, hq _ H hS (Kp.refl _ _) (Is.int _)⟩
  · cases hp
theorem opk_int0 {h : Int → Int → Int} : OpK X (rI0 fun i j => .int (h i j)) (iop fun i j => some (h i j)) := by
  intro f S H vx vy x y z Q hS rx ry hp hq
  unfold iop at hp
  split at hp
  · cases hp
    cases rx
    cases ry
    exact ⟨_, _, rfl, rfl, hq _ H hS (Kp.refl _ _) (Is.int _)⟩
  · cases hp
theorem opk_rel {h : Int → Int → Bool} : OpK X (rI0 fun i j => .bl (h i j)) (irel h) := by
  intro f S H vx vy x y z Q hS rx ry hp hq
  unfold irel at hp
  split at hp
  · cases hp
    cases rx
    cases ry
    exact ⟨_, _, rfl, rfl, hq _ H hS (Kp.refl _ _) (Is.bl _)⟩
  · cases hp
end
abbrev pAdd := iop fun i j => some (i + j)
abbrev pSub := iop fun i j => some (i - j)
/-- one factor is short -/
def short (i : Int) : Prop := -18446744073709551616 < i ∧ i < 18446744073709551616
noncomputable instance (i : Int) : Decidable (short i) := Classical.propDecidable _
def lt64 (i : Int) : Prop := i < 18446744073709551616
noncomputable instance (i : Int) : Decidable (lt64 i) := Classical.propDecidable _
@[simp] theorem lt64_iff (i : Int) : lt64 i ↔ i < 18446744073709551616 := Iff.rfl
def le1M (i : Int) : Prop := i ≤ 1000000
noncomputable instance (i : Int) : Decidable (le1M i) := Classical.propDecidable _
@[simp] theorem le1M_iff (i : Int) : le1M i ↔ i ≤ 1000000 := Iff.rfl
noncomputable abbrev pMul := iop fun i j => if short i ∨ short j then some (i * j) else none
noncomputable abbrev pDiv := iop fun i j => if 0 < j ∧ lt64 j then some (i / j) else none
abbrev pMod := iop fun i j => if 0 < j then some (i % j) else none
def pPow : SV → SV → Sto → Option SV := iop fun i j => if 0 ≤ j ∧ j ≤ 1000 ∧ -(10 ^ 60) ≤ i ∧ i ≤ 10 ^ 60 then some (i ^ j.toNat) else none
noncomputable abbrev pShl := iop fun i j => if 0 ≤ j ∧ le1M j ∧ short i then some (i * 2 ^ j.toNat) else none
abbrev pShr := iop fun i j => if 0 ≤ j then some (i / 2 ^ j.toNat) else none
abbrev pAnd := iop fun i j => some (Builtin.bitAnd i j)
abbrev pLt := irel fun i j => decide (i < j)
abbrev pLe := irel fun i j => decide (i ≤ j)
abbrev pGt := irel fun i j => decide (j < i)
abbrev pGe := irel fun i j => decide (j ≤ i)
section
variable {X : Cx} {W : WX} {a b c : Expr} {ea eb ec : Ex} {pos : Pos}
theorem de_add (ha : DE X W a ea) (hb : DE X W b eb) : DE X W (.BinOp a .Add b pos) (eBin pAdd ea eb) := de_bin op_add opk_int0 ha hb
theorem de_sub (ha : DE X W a ea) (hb : DE X W b eb) : DE X W (.BinOp a .Sub b pos) (eBin pSub ea eb) := de_bin op_sub opk_int0 ha hb
theorem short_pow {i : Int} (h : short i) : -(2 ^ 64) < i ∧ i < 2 ^ 64 := by
  have e : (2 : Int) ^ 64 = 18446744073709551616 := by decide
  rw [e]
  exact h
theorem de_mul (ha : DE X W a ea) (hb : DE X W b eb) : DE X W (.BinOp a .Mult b pos) (eBin pMul ea eb) := de_bin op_mul (opk_int fun i j k e => by
  split at e
  · rename_i h
    cases e
    exact ⟨h.imp short_pow short_pow, rfl⟩
  · cases e) ha hb
theorem de_div (ha : DE X W a ea) (hb : DE X W b eb) : DE X W (.BinOp a .FloorDiv b pos) (eBin pDiv ea eb) := de_bin op_fdivW (opk_int fun i j k e => by
  split at e
  · rename_i h
    cases e
    exact ⟨wide_div (b := 64) h.1 (by have := h.2; unfold lt64 at this; have e : (2 : Nat) ^ 64 = 18446744073709551616 := by decide
                                      rw [e]; omega) (by decide) (by decide), rfl⟩
  · cases e) ha hb
theorem de_mod (ha : DE X W a ea) (hb : DE X W b eb) : DE X W (.BinOp a .Mod b pos) (eBin pMod ea eb) := de_bin op_mod (opk_int fun i j k e => by
  split at e
  · rename_i h
    cases e
    exact ⟨h, rfl⟩
  · cases e) ha hb
theorem bits_of {i : Int} {n : Nat} (h : i.natAbs < 2 ^ n) : Builtin.Int.intBits i ≤ n := by
  unfold Builtin.Int.intBits
  first
    | (split
       · exact Nat.zero_le _
       · rename_i h0
         have h0' : i.natAbs ≠ 0 := by simpa using h0
         have := (Nat.log2_lt h0').mpr h
         omega)
    | (cases n with
       | zero => simp at h; subst h; decide
       | succ n =>
         by_cases h0 : i.natAbs = 0
         · simp [h0]
         · have := (Nat.log2_lt h0).mpr h
           simp [h0]; omega)
theorem op_powW : OpR X (binaryOp .Pow) (rI (fun i j => 0 ≤ j ∧ j ≤ 1000 ∧ i.natAbs < 2 ^ 200) fun i j => .int (i ^ j.toNat)) := opI fun i j _ _ _ _ _ hc q => by
  refine pow_int hc.1 ?_ q
  have h1 : (Builtin.Int.intBits i : Int) ≤ 200 := by exact_mod_cast bits_of hc.2.2
  have h2 : (Builtin.Int.intBits i : Int) * j ≤ 200 * 1000 := Int.mul_le_mul h1 hc.2.1 hc.1 (by decide)
  exact Int.le_trans h2 (by decide)
theorem de_pow (ha : DE X W a ea) (hb : DE X W b eb) : DE X W (.BinOp a .Pow b pos) (eBin pPow ea eb) := de_bin op_powW (opk_int fun i j k e => by
  split at e
  · rename_i h
    cases e
    refine ⟨⟨h.1, h.2.1, ?_⟩, rfl⟩
    have h3 : i.natAbs ≤ 10 ^ 60 := by
      have e : ((10 ^ 60 : Nat) : Int) = (10 : Int) ^ 60 := by decide
      omega
    exact Nat.lt_of_le_of_lt h3 (by decide)
  · cases e) ha hb
theorem de_shl (ha : DE X W a ea) (hb : DE X W b eb) : DE X W (.BinOp a .LShift b pos) (eBin pShl ea eb) := de_bin op_shl (opk_int fun i j k e => by
  split at e
  · rename_i h
    cases e
    refine ⟨⟨h.1, h.2.1, ?_⟩, rfl⟩
    have := short_pow h.2.2
    have e : ((2 ^ 64 : Nat) : Int) = (2 : Int) ^ 64 := by decide
    omega
  · cases e) ha hb
theorem de_shr (ha : DE X W a ea) (hb : DE X W b eb) : DE X W (.BinOp a .RShift b pos) (eBin pShr ea eb) := de_bin op_shr (opk_int fun i j k e => by
  split at e
  · rename_i h
    cases e
    exact ⟨h, rfl⟩
  · cases e) ha hb
theorem de_and_ (ha : DE X W a ea) (hb : DE X W b eb) : DE X W (.BinOp a .BitAnd b pos) (eBin pAnd ea eb) := de_bin op_and opk_int0 ha hb
theorem de_neg (ha : DE X W a ea) : DE X W (.UnaryOp .USub a pos) (eUn (fun x _ => match x with | .d (.int i) => some (.d (.int (-i))) | _ => none) ea) := de_un un_neg (by
  intro f S H vx x z Q hS rx hp hq
  dsimp only at hp
  split at hp
  · cases hp
    cases rx
    exact ⟨_, rfl, hq _ H hS (Kp.refl _ _) (Is.int _)⟩
  · cases hp) ha
theorem de_lt (ha : DE X W a ea) (hb : DE X W b eb) : DE X W (.Compare a [.Lt] [b] pos) (eBin pLt ea eb) := de_cmp op_lt opk_rel ha hb (nomark _)
theorem de_le (ha : DE X W a ea) (hb : DE X W b eb) : DE X W (.Compare a [.LtE] [b] pos) (eBin pLe ea eb) := de_cmp op_le opk_rel ha hb (nomark _)
theorem de_gt (ha : DE X W a ea) (hb : DE X W b eb) : DE X W (.Compare a [.Gt] [b] pos) (eBin pGt ea eb) := de_cmp op_gt opk_rel ha hb (nomark _)
theorem de_ge (ha : DE X W a ea) (hb : DE X W b eb) : DE X W (.Compare a [.GtE] [b] pos) (eBin pGe ea eb) := de_cmp op_ge opk_rel ha hb (nomark _)
theorem dt_lt (ha : DE X W a ea) (hb : DE X W b eb) : DT X W (.Compare a [.Lt] [b] pos) (tVal (eBin pLt ea eb)) := dt_cmp op_lt opk_rel ha hb (nomark _)
theorem dt_le (ha : DE X W a ea) (hb : DE X W b eb) : DT X W (.Compare a [.LtE] [b] pos) (tVal (eBin pLe ea eb)) := dt_cmp op_le opk_rel ha hb (nomark _)
theorem dt_gt (ha : DE X W a ea) (hb : DE X W b eb) : DT X W (.Compare a [.Gt] [b] pos) (tVal (eBin pGt ea eb)) := dt_cmp op_gt opk_rel ha hb (nomark _)
theorem dt_ge (ha : DE X W a ea) (hb : DE X W b eb) : DT X W (.Compare a [.GtE] [b] pos) (tVal (eBin pGe ea eb)) := dt_cmp op_ge opk_rel ha hb (nomark _)
/-- a op b op c -/
theorem de_chain {op op' : CmpOp} {r r' : R2} {p p' : SV → SV → Sto → Option SV} (ho : OpR X (compareOp op) r) (ho' : OpR X (compareOp op') r') (hk : OpK X r p) (hk' : OpK X r' p') (hp : ∀ x y S z, p x y S = some z → ∃ b, z = .d (.bool b))
    (ha : DE X W a ea) (hb : DE X W b eb) (hc : DE X W c ec) (hm : lastMarks [op, op'] [b, c] = false := by with_unfolding_all rfl) : DE X W (.Compare a [op, op'] [b, c] pos) (eChain p p' ea eb ec) :=
  pe_imp (pe_chain ho ho' ha hb hc hm) fun σV H Q ⟨f, σ, S, r, hE, hS, he, hq⟩ => by
    have hx := exc_way hq
    refine TX.first hE hS he hx fun x S1 vx H1 _ h1 s1 k1 e1 r1 => ?_
    refine TX.first e1 s1 h1 (fun y S' e => (hx y S' e).kp k1) fun y S2 vy H2 _ h2 s2 k2 e2 r2 => ?_
    cases hpp : p x y S2 with
    | none => rw [hpp] at h2; cases h2
    | some z =>
      rw [hpp] at h2
      refine hk f S2 H2 vx vy x y z _ s2 (r1.kp k2) r2 hpp fun v H3 s3 k3 r3 => ?_
      obtain ⟨d, rfl⟩ := hp _ _ _ _ hpp
      cases r3
      refine ⟨d, rfl, ?_⟩
      cases d with
      | true =>
        dsimp only at h2
        rw [if_pos rfl]
        have k13 := (k1.trans k2).trans k3
        refine TX.first (e2.kp k3) s3 h2 (fun w S' e => (hx w S' e).kp k13) fun w S4 vw H4 _ h4 s4 k4 e4 r4 => ?_
        cases hp2 : p' y w S4 with
        | none => rw [hp2] at h4; cases h4
        | some u =>
          rw [hp2] at h4
          cases h4
          exact hk' f S4 H4 vy vw y w u Q s4 ((r2.kp k3).kp k4) r4 hp2 fun v H' s' k' r' => hq v H' s' ((k13.trans k4).trans k') r'
      | false =>
        dsimp only at h2
        rw [if_neg Bool.false_ne_true]
        cases h2
        exact hq _ H3 s3 ((k1.trans k2).trans k3) (Is.bl false)
theorem irel_bool {h : Int → Int → Bool} : ∀ x y S z, irel h x y S = some z → ∃ b, z = .d (.bool b) := fun x y S z e => by
  unfold irel at e
  split at e
  · cases e; exact ⟨_, rfl⟩
  · cases e
theorem de_chLeLe (ha : DE X W a ea) (hb : DE X W b eb) (hc : DE X W c ec) (hm : lastMarks [CmpOp.LtE, CmpOp.LtE] [b, c] = false := by with_unfolding_all rfl) : DE X W (.Compare a [.LtE, .LtE] [b, c] pos) (eChain pLe pLe ea eb ec) := de_chain op_le op_le opk_rel opk_rel irel_bool ha hb hc hm
theorem de_chLeLt (ha : DE X W a ea) (hb : DE X W b eb) (hc : DE X W c ec) (hm : lastMarks [CmpOp.LtE, CmpOp.Lt] [b, c] = false := by with_unfolding_all rfl) : DE X W (.Compare a [.LtE, .Lt] [b, c] pos) (eChain pLe pLt ea eb ec) := de_chain op_le op_lt opk_rel opk_rel irel_bool ha hb hc hm

/-! ## data: what a value is -/
@[simp] def res : SV → Sto → Option PyData
  | .d x, _ => some x
  | .r i, S => match S[i]? with
    | some (.lst ds) => some (.list ds)
    | _ => none
  | .s ns, _ => some (.list (ns.map .int))
mutual
theorem dp_of_ints {K : PySem.W.Frag} {H : Hp} : ∀ ns : List Int, DpAll K H (ns.map V.int) (ns.map .int)
  | [] => .nil
  | n :: ns => .cons (.int n) (dp_of_ints ns)
end
theorem res_dp {K : PySem.W.Frag} {f : Ow} {S : Sto} {H : Hp} {v : V} {x : SV} {d : PyData} (hS : StoR K f S H) (r : SvR K f H v x) (e : res x S = some d) (n : d.hasDict = false) : Dp K H v d := by
  cases x with
  | d x => cases e; exact Is.dp r n
  | r i =>
    obtain ⟨a, ea, rfl⟩ := r
    simp only [res] at e
    split at e
    · rename_i ds e1
      cases e
      obtain ⟨vs, h1, h2⟩ := hS.at_ i _ a e1 ea
      exact .lst (.inl (.inl h1)) (IsAll.dp h2 (by simpa [PyData.hasDict] using n))
    · cases e
  | s ns =>
    obtain ⟨a, rfl, h⟩ := r
    cases e
    exact .lst h.sq (dp_of_ints ns)
/-- == that the model decides without looking further -/
def okD (d : PyData) : Bool := SeqAt.shaped d && !d.hasDict
@[simp] def pEq : SV → SV → Sto → Option SV := fun x y S => match x, y with
  | .d (.str a), .d (.str b) => some (.d (.bool (decide (a = b))))
  | x, y => (res x S).bind fun d => (res y S).bind fun e => if okD d = true ∧ okD e = true then some (.d (.bool (PyData.eqv d e))) else none
@[simp] def pNe : SV → SV → Sto → Option SV := fun x y S => match x, y with
  | .d (.str a), .d (.str b) => some (.d (.bool (!decide (a = b))))
  | x, y => (res x S).bind fun d => (res y S).bind fun e => if okD d = true ∧ okD e = true then some (.d (.bool (!PyData.eqv d e))) else none
theorem okD_split {d : PyData} (h : okD d = true) : SeqAt.shaped d = true ∧ d.hasDict = false := by
  unfold okD at h
  simpa using h
theorem OpR.or {X : Cx} {f : Value → Value → Sem Value} {r r' : R2} (h : OpR X f r) (h' : OpR X f r') : OpR X f (fun x y H Q => r x y H Q ∨ r' x y H Q) := by
  intro pins s σ H x y v u Q I rx ry q
  rcases q with q | q
  · exact h pins s σ H x y v u Q I rx ry q
  · exact h' pins s σ H x y v u Q I rx ry q
theorem opk_eq : OpK X (fun x y H Q => rEqD X.K x y H Q ∨ rEq x y H Q) pEq := by
  intro f S H vx vy x y z Q hS rx ry hp hq
  unfold pEq at hp
  split at hp
  · rename_i a b
    cases hp
    cases rx
    cases ry
    refine .inr ⟨rfl, ?_⟩
    have e : decide (V.str a = V.str b) = decide (a = b) := by
      by_cases h : a = b
      · subst h; simp
      · have h2 : ¬ (V.str a = V.str b) := fun q => h (V.str.inj q)
        rw [decide_eq_false h, decide_eq_false h2]
    rw [e]
    exact hq _ H hS (Kp.refl _ _) (Is.bl _)
  · cases e1 : res x S with
    | none => rw [e1] at hp; cases hp
    | some d =>
    cases e2 : res y S with
    | none => rw [e1, e2] at hp; cases hp
    | some e =>
    rw [e1, e2] at hp
    dsimp only [Option.bind_some] at hp
    split at hp
    · rename_i h
      cases hp
      have h1 := okD_split h.1
      have h2 := okD_split h.2
      exact .inl ⟨d, e, res_dp hS rx e1 h1.2, res_dp hS ry e2 h2.2, h1.1, h2.1, hq _ H hS (Kp.refl _ _) (Is.bl _)⟩
    · cases hp
theorem opk_ne : OpK X (fun x y H Q => rNeD X.K x y H Q ∨ rNe x y H Q) pNe := by
  intro f S H vx vy x y z Q hS rx ry hp hq
  unfold pNe at hp
  split at hp
  · rename_i a b
    cases hp
    cases rx
    cases ry
    refine .inr ⟨rfl, ?_⟩
    have e : decide (V.str a = V.str b) = decide (a = b) := by
      by_cases h : a = b
      · subst h; simp
      · have h2 : ¬ (V.str a = V.str b) := fun q => h (V.str.inj q)
        rw [decide_eq_false h, decide_eq_false h2]
    rw [e]
    exact hq _ H hS (Kp.refl _ _) (Is.bl _)
  · cases e1 : res x S with
    | none => rw [e1] at hp; cases hp
    | some d =>
    cases e2 : res y S with
    | none => rw [e1, e2] at hp; cases hp
    | some e =>
    rw [e1, e2] at hp
    dsimp only [Option.bind_some] at hp
    split at hp
    · rename_i h
      cases hp
      have h1 := okD_split h.1
      have h2 := okD_split h.2
      exact .inl ⟨d, e, res_dp hS rx e1 h1.2, res_dp hS ry e2 h2.2, h1.1, h2.1, hq _ H hS (Kp.refl _ _) (Is.bl _)⟩
    · cases hp
theorem de_eq {k : Nat} (G : Gd X W k) (ha : DE X W a ea) (hb : DE X W b eb) : DE X W (.Compare a [.Eq] [b] pos) (eBin pEq ea eb) := de_cmp (OpR.or (op_eqD G.hr.units) op_eq) opk_eq ha hb (nomark _)
theorem de_ne {k : Nat} (G : Gd X W k) (ha : DE X W a ea) (hb : DE X W b eb) : DE X W (.Compare a [.NotEq] [b] pos) (eBin pNe ea eb) := de_cmp (OpR.or (op_neD G.hr.units) op_ne) opk_ne ha hb (nomark _)
theorem dt_eq {k : Nat} (G : Gd X W k) (ha : DE X W a ea) (hb : DE X W b eb) : DT X W (.Compare a [.Eq] [b] pos) (tVal (eBin pEq ea eb)) := dt_cmp (OpR.or (op_eqD G.hr.units) op_eq) opk_eq ha hb (nomark _)
theorem dt_ne {k : Nat} (G : Gd X W k) (ha : DE X W a ea) (hb : DE X W b eb) : DT X W (.Compare a [.NotEq] [b] pos) (tVal (eBin pNe ea eb)) := dt_cmp (OpR.or (op_neD G.hr.units) op_ne) opk_ne ha hb (nomark _)

/-! ## items -/
@[simp] def pIx : SV → SV → Sto → Option SV := fun x y S => match y with
  | .d (.int i) => match x with
    | .d (.list ds) => (atI ds i).map .d
    | .d (.tuple ds) => (atI ds i).map .d
    | .d (.str z) => if z.length ≤ sizeLine then (atI z.cps.toList i).map fun c => .d (.str ⟨#[c]⟩) else none
    | .r j => match S[j]? with
      | some (.lst ds) => (atI ds i).map .d
      | _ => none
    | .s ns => (atI ns i).map fun n => .d (.int n)
    | _ => none
  | _ => none
theorem at_is {K : PySem.W.Frag} {f : Ow} {H : Hp} {vs : List V} {ds : List PyData} {i : Int} {d : PyData} (h : IsAll K f H vs ds) (e : atI ds i = some d) : ∃ v, atI vs i = some v ∧ Is K f H v d := by
  unfold atI at e ⊢
  rw [h.len]
  cases en : ixN ds.length i with
  | none => rw [en] at e; cases e
  | some j =>
    rw [en] at e
    exact h.get e
theorem opk_ix : OpK X (rIx X.K) pIx := by
  intro f S H vx vy x y z Q hS rx ry hp hq
  unfold pIx at hp
  split at hp
  · rename_i i
    cases ry
    split at hp
    · rename_i ds
      cases e : atI ds i with
      | none => rw [e] at hp; cases hp
      | some d =>
        rw [e] at hp; cases hp
        cases rx with
        | @lst a xs _ h1 h2 =>
        obtain ⟨v, ev, iv⟩ := at_is h2 e
        exact .inl ⟨a, xs, i, v, rfl, rfl, h1.sq, ev, hq v H hS (Kp.refl _ _) iv⟩
    · rename_i ds
      cases e : atI ds i with
      | none => rw [e] at hp; cases hp
      | some d =>
        rw [e] at hp; cases hp
        cases rx with
        | @tup a xs _ h1 h2 =>
        obtain ⟨v, ev, iv⟩ := at_is h2 e
        exact .inr (.inl ⟨a, xs, i, v, rfl, rfl, h1.sq, ev, hq v H hS (Kp.refl _ _) iv⟩)
    · rename_i s
      split at hp
      · rename_i hz
        cases e : atI s.cps.toList i with
        | none => rw [e] at hp; cases hp
        | some c =>
          rw [e] at hp; cases hp
          cases rx
          exact .inr (.inr ⟨s, i, c, rfl, rfl, hz, e, hq _ H hS (Kp.refl _ _) (Is.str _)⟩)
      · cases hp
    · rename_i j
      split at hp
      · rename_i ds e0
        cases e : atI ds i with
        | none => rw [e] at hp; cases hp
        | some d =>
          rw [e] at hp; cases hp
          obtain ⟨a, ea, rfl⟩ := rx
          obtain ⟨xs, h1, h2⟩ := hS.at_ j _ a e0 ea
          obtain ⟨v, ev, iv⟩ := at_is h2 e
          exact .inl ⟨a, xs, i, v, rfl, rfl, .inl (.inl h1), ev, hq v H hS (Kp.refl _ _) iv⟩
      · cases hp
    · rename_i ns
      cases e : atI ns i with
      | none => rw [e] at hp; cases hp
      | some n =>
        rw [e] at hp; cases hp
        obtain ⟨a, rfl, h⟩ := rx
        refine .inl ⟨a, _, i, .int n, rfl, rfl, h.sq, ?_, hq _ H hS (Kp.refl _ _) (Is.int n)⟩
        unfold atI at e ⊢
        rw [List.length_map]
        cases en : ixN ns.length i with
        | none => rw [en] at e; cases e
        | some j =>
          rw [en] at e
          have e : ns[j]? = some n := e
          show (ns.map V.int)[j]? = some (.int n)
          rw [List.getElem?_map, e]; rfl
    · cases hp
  · cases hp
theorem de_ix (ha : DE X W a ea) (hb : DE X W b eb) (hs : PlainIx b := by intro _ _; rfl) : DE X W (.Subscript a b pos) (eBin pIx ea eb) :=
  pe_imp (pe_ix ix_seq ha hb hs) fun _ _ _ h => two opk_ix h
end
end Z
set_option maxRecDepth 100000
set_option maxHeartbeats 1000000
namespace Z
open PySem PySem.Spec PyProof.Rows L2

/-! ## tuple * int, any int -/
theorem tup_mul_same (l : Addr) (items : Array Value) (n : Nat) (dd : Option Addr) (sl : Array (Option Value)) (u : Tok) :
    Meets (Builtin.«tuple.__mul__» ⟨[.ref l, .int 1 u], []⟩) (fun _ R s => s.heap.get? l = some { cls := .type "tuple", dict := dd, data := .seq items n, slots := sl } ∧ R (.ok (.ret (Value.ref l))) s) :=
  .of_wp fun prog w A R s h => by
    obtain ⟨hp, g, d, tk, os⟩ := s
    obtain ⟨hl, h⟩ := h
    have f1 := AutoSeq1.idx_int
    wp_walk using wpAny_loadPart' hl
    repeat (first
      | (refine wpAny_ite_false (by decide) ?_; wp_walk using wpAny_loadPart' hl)
      | (refine wpAny_ite_true (by simp) ?_; wp_walk using wpAny_loadPart' hl))
    exact ⟨_, rfl, h⟩
theorem tup_mul_none (l : Addr) (items : Array Value) (n : Nat) (dd : Option Addr) (sl : Array (Option Value)) (x : Int) (u : Tok) (c0 : (decide (x < -(2 ^ 63)) || decide (x ≥ 2 ^ 63)) = false) (c1 : (items.isEmpty || x == 1) = false) (c2 : (decide (x ≤ 0) || items.isEmpty) = true) :
    Meets (Builtin.«tuple.__mul__» ⟨[.ref l, .int x u], []⟩) (fun _ R s => s.heap.get? l = some { cls := .type "tuple", dict := dd, data := .seq items n, slots := sl } ∧
      R (.ok (.ret (Value.ref s.heap.objs.size))) { s with heap := s.heap.push { cls := Value.type "tuple", data := Data.seq #[] }, toks := s.toks }) :=
  .of_wp fun prog w A R s h => by
    obtain ⟨hp, g, d, tk, os⟩ := s
    obtain ⟨hl, h⟩ := h
    have f1 := AutoSeq1.idx_int
    wp_walk using wpAny_loadPart' hl
    repeat (first
      | (refine wpAny_ite_false (decide_eq_false (by rw [c0]; exact Bool.false_ne_true)) ?_; wp_walk using wpAny_loadPart' hl)
      | (refine wpAny_ite_false (decide_eq_false (by rw [c1]; exact Bool.false_ne_true)) ?_; wp_walk using wpAny_loadPart' hl)
      | (refine wpAny_ite_true (decide_eq_true c2) ?_; wp_walk using wpAny_loadPart' hl)
      | (refine wpAny_ite_false (by decide) ?_; wp_walk using wpAny_loadPart' hl))
    exact ⟨_, rfl, h⟩
/-- any tuple that is not empty, any int -/
def rMulT (K : PySem.W.Frag) : R2 := fun x y H Q => ∃ l k xs, x = .ref l ∧ y = .int k ∧ SqT K H l xs ∧ xs ≠ [] ∧ -(2 ^ 63) ≤ k ∧ k ≤ 1000 ∧ xs.length ≤ 1000 ∧ (k = 1 → Q (.ref l) H) ∧ (k ≠ 1 → ∀ p, H p = none → Q (.ref p) (upd H p (.tup (List.replicate k.toNat xs).flatten)))
theorem op_mulT {X : Cx} : OpR X (binaryOp .Mult) (rMulT X.K) := by
  intro pins s σ H x y v u Q I rx ry h
  obtain ⟨l, k, xs, rfl, rfl, hT, hne, h1, h2, hz, q1, q2⟩ := h
  by_cases hk : 2 ≤ k
  · exact op_repT pins s σ H _ _ v u Q I rx ry ⟨l, k, xs, rfl, rfl, hT, hne, hk, h2, hz, q2 (by omega)⟩
  · cases rx
    obtain ⟨t, rfl⟩ := ry
    obtain ⟨its, r, ⟨⟨cls, dd, data, sl⟩, ho, hc, n, hd⟩, hs⟩ := I.tuple hT
    simp only at hc hd
    subst hc hd
    have hn : its ≠ [] := fun e => hne (by
      subst e
      cases r
      rfl)
    have hi : its.toArray.isEmpty = false := by
      cases its with
      | nil => exact absurd rfl hn
      | cons a b => rfl
    by_cases h3 : k = 1
    · subst h3
      refine wpAny_binaryOp_repeat_ref (T := "tuple") (U := "int") (by decide) ⟨_, ho, rfl⟩ (fun s' => typeIs_int s' 1 t) noFill_tuple_mul F.fills_int_mul F.slot_int_rmul repeat_tuple F.slot_int_index.lookup
        (call_meets F.slot_int_rmul (typeIs_int s 1 t) F.entry_int_rmul (F.args_int_rmul_2 _ _) (int_rmul_tuple 1 t l its.toArray n dd sl)
          ⟨ho, rfl, ⟨_, ho, rfl⟩, call_meets F.slot_tuple_mul ⟨_, ho, rfl⟩ F.entry_tuple_mul (F.args_tuple_mul_2 _ _) (tup_mul_same l its.toArray n dd sl t) ⟨ho, ?_⟩⟩)
      exact ⟨.ref l, H, I, rfl, q1 rfl⟩
    · have c0 : (decide (k < -(2 ^ 63)) || decide (k ≥ 2 ^ 63)) = false := by
        rw [decide_eq_false (by omega), decide_eq_false (by omega)] <;> rfl
      have c1 : (its.toArray.isEmpty || k == 1) = false := by
        rw [hi, Bool.false_or]
        exact beq_eq_false_iff_ne.mpr h3
      have c2 : (decide (k ≤ 0) || its.toArray.isEmpty) = true := by
        rw [decide_eq_true (by omega)]; rfl
      refine wpAny_binaryOp_repeat_ref (T := "tuple") (U := "int") (by decide) ⟨_, ho, rfl⟩ (fun s' => typeIs_int s' k t) noFill_tuple_mul F.fills_int_mul F.slot_int_rmul repeat_tuple F.slot_int_index.lookup
        (call_meets F.slot_int_rmul (typeIs_int s k t) F.entry_int_rmul (F.args_int_rmul_2 _ _) (int_rmul_tuple k t l its.toArray n dd sl)
          ⟨ho, rfl, ⟨_, ho, rfl⟩, call_meets F.slot_tuple_mul ⟨_, ho, rfl⟩ F.entry_tuple_mul (F.args_tuple_mul_2 _ _) (tup_mul_none l its.toArray n dd sl k t c0 c1 c2) ⟨ho, ?_⟩⟩)
      have ek : k.toNat = 0 := by omega
      have q := q2 h3
      rw [ek] at q
      refine ⟨.ref s.heap.objs.size, _, I.laid (t' := s.toks) (o := .tup []) (fun b ob q => Heap.get?_push_of_some _ q) (Nat.le_refl _) ?_, rfl, q _ (I.hok.fresh (Nat.le_refl _))⟩
      exact ⟨Nat.zero_le _, [], .nil, IsTup.new _ _⟩

/-! ## +, * of lists and tuples, beside ints -/
@[simp] def pMulA : SV → SV → Sto → Option SV := fun x y S => match x with
  | .d (.tuple ds) => match y with
    | .d (.int k) => if ds ≠ [] ∧ ds.length ≤ 1000 ∧ -1000 ≤ k ∧ k ≤ 1000 then some (.d (.tuple (List.replicate k.toNat ds).flatten)) else none
    | _ => none
  | .d (.list ds) => match y with
    | .d (.int k) => if ds.length ≤ 1000 ∧ -1000 ≤ k ∧ k ≤ 1000 then some (.d (.list (List.replicate k.toNat ds).flatten)) else none
    | _ => none
  | _ => none
theorem is_flat {K : PySem.W.Frag} {f : Ow} {H : Hp} {xs : List V} {ds : List PyData} (h : IsAll K f H xs ds) : ∀ k : Nat, IsAll K f H (List.replicate k xs).flatten (List.replicate k ds).flatten
  | 0 => .nil
  | k + 1 => by
    rw [List.replicate_succ, List.replicate_succ, List.flatten_cons, List.flatten_cons]
    exact h.app (is_flat h k)
section
variable {X : Cx} {W : WX} {a b c : Expr} {ea eb ec : Ex} {pos : Pos}
theorem opk_mulA : OpK X (fun x y H Q => rMulT X.K x y H Q ∨ rRep x y H Q) pMulA := by
  intro f S H vx vy x y z Q hS rx ry hp hq
  unfold pMulA at hp
  split at hp
  · rename_i ds
    split at hp
    · rename_i k
      split at hp
      · rename_i h
        cases hp
        cases ry
        cases rx with
        | @tup a xs _ h1 h2 =>
        refine .inl ⟨a, k, xs, rfl, rfl, h1.sq, ?_, by omega, h.2.2.2, by rw [h2.len]; exact h.2.1, fun e => ?_, fun e p np => ?_⟩
        · intro e
          subst e
          cases h2
          exact h.1 rfl
        · subst e
          refine hq _ H hS (Kp.refl _ _) ?_
          simp only [Int.toNat_one, List.replicate_succ, List.replicate_zero, List.flatten_cons, List.flatten_nil, List.append_nil]
          exact Is.tup h1 h2
        · exact hq _ _ (hS.laid np) (Kp.new np) (Is.tup (.inl ⟨.inl upd_same, hS.free np⟩) (is_flat (h2.keep (Kp.new np).q (Gr.refl _ _)) k.toNat))
      · cases hp
    · cases hp
  · rename_i ds
    split at hp
    · rename_i k
      split at hp
      · rename_i h
        cases hp
        cases ry
        cases rx with
        | @lst a xs _ h1 h2 =>
        refine .inr ⟨a, k, xs, rfl, rfl, h1.1, by omega, by omega, ?_, fun p np => ?_⟩
        · rw [h2.len]
          have : ds.length * k.toNat ≤ 1000 * 1000 := Nat.mul_le_mul h.1 (by omega)
          exact Nat.le_trans this (by decide)
        · exact hq _ _ (hS.laid np) (Kp.new np) (Is.lst ⟨upd_same, hS.free np⟩ (is_flat (h2.keep (Kp.new np).q (Gr.refl _ _)) k.toNat))
      · cases hp
    · cases hp
  · cases hp
theorem de_mulA (ha : DE X W a ea) (hb : DE X W b eb) : DE X W (.BinOp a .Mult b pos) (eBin pMulA ea eb) := de_bin (OpR.or op_mulT op_rep) opk_mulA ha hb
/-- lists: of the store too -/
@[simp] def asL : SV → Sto → Option (List PyData)
  | .d (.list ds), _ => some ds
  | .r i, S => match S[i]? with
    | some (.lst ds) => some ds
    | _ => none
  | _, _ => none
theorem asL_is {f : Ow} {S : Sto} {H : Hp} {v : V} {x : SV} {ds : List PyData} (hS : StoR X.K f S H) (r : SvR X.K f H v x) (e : asL x S = some ds) : ∃ a xs, v = .ref a ∧ H a = some (.lst xs) ∧ IsAll X.K f H xs ds := by
  unfold asL at e
  split at e
  · cases e
    cases r with
    | @lst a xs _ h1 h2 => exact ⟨a, xs, rfl, h1.1, h2⟩
  · split at e
    · rename_i ds e1
      cases e
      obtain ⟨a, ea, rfl⟩ := r
      obtain ⟨xs, h1, h2⟩ := hS.at_ _ _ a e1 ea
      exact ⟨a, xs, rfl, h1, h2⟩
    · cases e
  · cases e
@[simp] def pCat : SV → SV → Sto → Option SV := fun x y S => match x, y with
  | .d (.tuple ds), .d (.tuple es) => if ds.length + es.length ≤ sizeLine then some (.d (.tuple (ds ++ es))) else none
  | .d (.str s), .d (.str t) => if s.length + t.length ≤ sizeLine then some (.d (.str (s ++ t))) else none
  | x, y => (asL x S).bind fun ds => (asL y S).bind fun es => if ds.length + es.length ≤ sizeLine then some (.d (.list (ds ++ es))) else none
theorem opk_cat : OpK X (fun x y H Q => (rCatA X.K x y H Q ∨ rCat x y H Q) ∨ (∃ i j, x = .str i ∧ y = .str j ∧ i.length + j.length ≤ sizeLine ∧ Q (.str (i ++ j)) H)) pCat := by
  intro f S H vx vy x y z Q hS rx ry hp hq
  unfold pCat at hp
  split at hp
  · rename_i ds es
    split at hp
    · rename_i h
      cases hp
      cases rx with
      | @tup a xs _ h1 h2 =>
      cases ry with
      | @tup a' ys _ h1' h2' =>
      refine .inl (.inl ⟨a, a', xs, ys, rfl, rfl, h1.sq, h1'.sq, by rw [h2.len, h2'.len]; exact h, fun e => ?_, fun e1 e => ?_, fun e1 e2 p np => ?_⟩)
      · subst e
        cases h2
        exact hq _ H hS (Kp.refl _ _) (Is.tup h1' h2')
      · subst e
        cases h2'
        refine hq _ H hS (Kp.refl _ _) ?_
        rw [List.append_nil]
        exact Is.tup h1 h2
      · exact hq _ _ (hS.laid np) (Kp.new np) (Is.tup (.inl ⟨.inl upd_same, hS.free np⟩) ((h2.keep (Kp.new np).q (Gr.refl _ _)).app (h2'.keep (Kp.new np).q (Gr.refl _ _))))
    · cases hp
  · split at hp
    · rename_i h
      cases hp
      cases rx
      cases ry
      exact .inr ⟨_, _, rfl, rfl, h, hq _ H hS (Kp.refl _ _) (Is.str _)⟩
    · cases hp
  · cases e1 : asL x S with
    | none => rw [e1] at hp; cases hp
    | some ds =>
    cases e2 : asL y S with
    | none => rw [e1, e2] at hp; cases hp
    | some es =>
    rw [e1, e2] at hp
    dsimp only [Option.bind_some] at hp
    split at hp
    · rename_i h
      cases hp
      obtain ⟨a, xs, rfl, h1, h2⟩ := asL_is hS rx e1
      obtain ⟨b, ys, rfl, h1', h2'⟩ := asL_is hS ry e2
      refine .inl (.inr ⟨a, b, xs, ys, rfl, rfl, h1, h1', by rw [h2.len, h2'.len]; exact h, fun p np => ?_⟩)
      exact hq _ _ (hS.laid np) (Kp.new np) (Is.lst ⟨upd_same, hS.free np⟩ ((h2.keep (Kp.new np).q (Gr.refl _ _)).app (h2'.keep (Kp.new np).q (Gr.refl _ _))))
    · cases hp
theorem de_cat (ha : DE X W a ea) (hb : DE X W b eb) : DE X W (.BinOp a .Add b pos) (eBin pCat ea eb) := de_bin (OpR.or (OpR.or op_catA op_cat) op_add_str) opk_cat ha hb
/-- xs + ys, owned -/
@[simp] def nCat (ea eb : Ex) (σ : Sg) (S : Sto) : Option (Res Ob) := Res.bnd (ea σ S) fun x S1 => Res.bnd (eb σ S1) fun y S2 => (asL x S2).bind fun ds => (asL y S2).bind fun es => if ds.length + es.length ≤ sizeLine then some (.ok (.lst (ds ++ es)) S2) else none
theorem dn_cat (ha : DE X W a ea) (hb : DE X W b eb) : DN X W (.BinOp a .Add b pos) (nCat ea eb) :=
  pe_imp (pe_op op_cat ha hb) fun σV H Q ⟨f, σ, S, r, hE, hS, he, hq⟩ => by
    have hx : ∀ x S', r = .exc x S' → XS X W f σV H x S' := fun x S' e => by subst e; exact hq
    refine TX.first hE hS he hx fun x S1 vx H1 _ h1 s1 k1 e1 r1 => ?_
    refine TX.first e1 s1 h1 (fun y S' e => (hx y S' e).kp k1) fun y S2 vy H2 _ h2 s2 k2 e2 r2 => ?_
    cases ex : asL x S2 with
    | none => rw [ex] at h2; cases h2
    | some ds =>
    cases ey : asL y S2 with
    | none => rw [ex, ey] at h2; cases h2
    | some es =>
    rw [ex, ey] at h2
    dsimp only [Option.bind_some] at h2
    split at h2
    · rename_i h
      cases h2
      obtain ⟨a, xs, rfl, g1, g2⟩ := asL_is s2 (r1.kp k2) ex
      obtain ⟨b, ys, rfl, g1', g2'⟩ := asL_is s2 r2 ey
      refine ⟨a, b, xs, ys, rfl, rfl, g1, g1', by rw [g2.len, g2'.len]; exact h, fun p np => ?_⟩
      have k12 := k1.trans k2
      have nH : H p = none := by
        cases eH : H p with
        | none => rfl
        | some o =>
          have z := k12 p o (s2.free np).1 eH
          rw [np] at z; cases z
      have npp : ∀ b ∈ [p], H2 b = none := fun b hb => by
        have e' : b = p := by simpa using hb
        rw [e']; exact np
      exact hq p _ nH (s2.own np ⟨_, upd_same, (g2.keep (Kp.new np).q (Gr.app npp)).app (g2'.keep (Kp.new np).q (Gr.app npp))⟩) (k12.trans (Kp.new np))
    · cases h2
end
end Z
set_option maxRecDepth 100000
set_option maxHeartbeats 1000000
namespace Z
open PySem PySem.Spec PyProof.Rows L2

/-! ## what is built in -/
@[simp] def pLen : List SV → Sto → Option SV
  | [.d (.list ds)], _ => some (.d (.int ds.length))
  | [.d (.tuple ds)], _ => some (.d (.int ds.length))
  | [.d (.str z)], _ => if z.length ≤ sizeLine then some (.d (.int z.length)) else none
  | [.r i], S => match S[i]? with
    | some (.lst ds) => some (.d (.int ds.length))
    | _ => none
  | [.s ns], _ => some (.d (.int ns.length))
  | _, _ => none
section
variable {X : Cx} {W : WX}
theorem cak_len : CaK X (fun xs H Q => ∃ x n, xs = [x] ∧ LenV X.K x H n ∧ Q (.int n) H) pLen := by
  intro f S H vs xs z Q hS rx hp hq
  unfold pLen at hp
  split at hp
  · rename_i ds
    cases hp
    cases rx with
    | cons r1 r2 =>
    cases r2
    cases r1 with
    | @lst a xs _ h1 h2 => exact ⟨_, ds.length, rfl, .inl ⟨xs, h1.sq, h2.len.symm⟩, hq _ H hS (Kp.refl _ _) (Is.int _)⟩
  · rename_i ds
    cases hp
    cases rx with
    | cons r1 r2 =>
    cases r2
    cases r1 with
    | @tup a xs _ h1 h2 => exact ⟨_, ds.length, rfl, .inr ⟨xs, h1.sq, h2.len.symm⟩, hq _ H hS (Kp.refl _ _) (Is.int _)⟩
  · split at hp
    · rename_i hz
      cases hp
      cases rx with
      | cons r1 r2 =>
      cases r2
      cases r1
      exact ⟨_, _, rfl, ⟨hz, rfl⟩, hq _ H hS (Kp.refl _ _) (Is.int _)⟩
    · cases hp
  · split at hp
    · rename_i ds e1
      cases hp
      cases rx with
      | cons r1 r2 =>
      cases r2
      obtain ⟨a, ea, rfl⟩ := r1
      obtain ⟨vs, h1, h2⟩ := hS.at_ _ _ a e1 ea
      exact ⟨_, ds.length, rfl, .inl ⟨vs, .inl (.inl h1), h2.len.symm⟩, hq _ H hS (Kp.refl _ _) (Is.int _)⟩
    · cases hp
  · rename_i ns
    cases hp
    cases rx with
    | cons r1 r2 =>
    cases r2
    obtain ⟨a, rfl, h⟩ := r1
    exact ⟨_, ns.length, rfl, .inl ⟨_, h.sq, by simp⟩, hq _ H hS (Kp.refl _ _) (Is.int _)⟩
  · cases hp
@[simp] def pI1 (g : Int → Int) : List SV → Sto → Option SV
  | [.d (.int i)], _ => some (.d (.int (g i)))
  | _, _ => none
@[simp] def pI2 (g : Int → Int → Int) : List SV → Sto → Option SV
  | [.d (.int i), .d (.int j)], _ => some (.d (.int (g i j)))
  | _, _ => none
theorem cak_i1 {g : Int → Int} : CaK X (fun xs H Q => ∃ i, xs = [.int i] ∧ Q (.int (g i)) H) (pI1 g) := by
  intro f S H vs xs z Q hS rx hp hq
  unfold pI1 at hp
  split at hp
  · cases hp
    cases rx with
    | cons r1 r2 =>
    cases r2
    cases r1
    exact ⟨_, rfl, hq _ H hS (Kp.refl _ _) (Is.int _)⟩
  · cases hp
theorem cak_i2 {g : Int → Int → Int} : CaK X (fun xs H Q => ∃ i j, xs = [.int i, .int j] ∧ Q (.int (g i j)) H) (pI2 g) := by
  intro f S H vs xs z Q hS rx hp hq
  unfold pI2 at hp
  split at hp
  · cases hp
    cases rx with
    | cons r1 r2 =>
    cases r2 with
    | cons r2 r3 =>
    cases r3
    cases r1
    cases r2
    exact ⟨_, _, rfl, hq _ H hS (Kp.refl _ _) (Is.int _)⟩
  · cases hp
abbrev pAbs := pI1 fun i => if i < 0 then -i else i
abbrev pMax := pI2 fun i j => if j > i then j else i
abbrev pMin := pI2 fun i j => if j < i then j else i
@[simp] def pInt : List SV → Sto → Option SV
  | [.d (.int i)], _ => some (.d (.int i))
  | [.d (.bool b)], _ => some (.d (.int (if b then 1 else 0)))
  | _, _ => none
theorem cak_int : CaK X (fun xs H Q => (∃ i, xs = [.int i] ∧ Q (.int i) H) ∨ ∃ k, xs = [.bl k] ∧ Q (.int (if k then 1 else 0)) H) pInt := by
  intro f S H vs xs z Q hS rx hp hq
  unfold pInt at hp
  split at hp
  · cases hp
    cases rx with
    | cons r1 r2 =>
    cases r2
    cases r1
    exact .inl ⟨_, rfl, hq _ H hS (Kp.refl _ _) (Is.int _)⟩
  · cases hp
    cases rx with
    | cons r1 r2 =>
    cases r2
    cases r1
    exact .inr ⟨_, rfl, hq _ H hS (Kp.refl _ _) (Is.int _)⟩
  · cases hp
/-- str(an int), str(a text) -/
@[simp] def pStr : List SV → Sto → Option SV
  | [.d (.int i)], _ => if i.natAbs.log2 < 1920 then some (.d (.str (toString i))) else none
  | [.d (.str x)], _ => some (.d (.str x))
  | _, _ => none
theorem cak_str : CaK X (fun xs H Q => (∃ i, xs = [.int i] ∧ i.natAbs.log2 < 1920 ∧ Q (.str (toString i)) H) ∨ ∃ a, xs = [.str a] ∧ Q (.str a) H) pStr := by
  intro f S H vs xs z Q hS rx hp hq
  unfold pStr at hp
  split at hp
  · split at hp
    · rename_i hz
      cases hp
      cases rx with
      | cons r1 r2 =>
      cases r2
      cases r1
      exact .inl ⟨_, rfl, hz, hq _ H hS (Kp.refl _ _) (Is.str _)⟩
    · cases hp
  · cases hp
    cases rx with
    | cons r1 r2 =>
    cases r2
    cases r1
    exact .inr ⟨_, rfl, hq _ H hS (Kp.refl _ _) (Is.str _)⟩
  · cases hp
/-- list(x), tuple(x) -/
@[simp] def pListOf : List SV → Sto → Option SV
  | [.d (.tuple ds)], _ => some (.d (.list ds))
  | [x], S => (asL x S).map fun ds => .d (.list ds)
  | _, _ => none
theorem cak_listof : CaK X (fun xs H Q => ∃ p ys, xs = [.ref p] ∧ (SqL X.K H p ys ∨ SqT X.K H p ys) ∧ ∀ l, H l = none → Q (.ref l) (upd H l (.lst ys))) pListOf := by
  intro f S H vs xs z Q hS rx hp hq
  unfold pListOf at hp
  split at hp
  · cases hp
    cases rx with
    | cons r1 r2 =>
    cases r2
    cases r1 with
    | @tup a ys _ h1 h2 =>
    exact ⟨a, ys, rfl, .inr h1.sq, fun l nl => hq _ _ (hS.laid nl) (Kp.new nl) (Is.lst ⟨upd_same, hS.free nl⟩ (h2.keep (Kp.new nl).q (Gr.refl _ _)))⟩
  · rename_i x _
    cases e : asL x S with
    | none => rw [e] at hp; cases hp
    | some ds =>
    rw [e] at hp
    cases hp
    cases rx with
    | cons r1 r2 =>
    cases r2
    obtain ⟨a, ys, rfl, h1, h2⟩ := asL_is hS r1 e
    exact ⟨a, ys, rfl, .inl (.inl (.inl h1)), fun l nl => hq _ _ (hS.laid nl) (Kp.new nl) (Is.lst ⟨upd_same, hS.free nl⟩ (h2.keep (Kp.new nl).q (Gr.refl _ _)))⟩
  · cases hp
@[simp] def pTupOf : List SV → Sto → Option SV
  | [.d (.tuple ds)], _ => some (.d (.tuple ds))
  | [x], S => (asL x S).map fun ds => .d (.tuple ds)
  | _, _ => none
theorem cak_tupof : CaK X (fun xs H Q => ∃ p ys, xs = [.ref p] ∧ ((SqL X.K H p ys ∧ ∀ l, H l = none → Q (.ref l) (upd H l (.tup ys))) ∨ (SqT X.K H p ys ∧ Q (.ref p) H))) pTupOf := by
  intro f S H vs xs z Q hS rx hp hq
  unfold pTupOf at hp
  split at hp
  · cases hp
    cases rx with
    | cons r1 r2 =>
    cases r2
    cases r1 with
    | @tup a ys _ h1 h2 =>
    exact ⟨a, ys, rfl, .inr ⟨h1.sq, hq _ H hS (Kp.refl _ _) (Is.tup h1 h2)⟩⟩
  · rename_i x _
    cases e : asL x S with
    | none => rw [e] at hp; cases hp
    | some ds =>
    rw [e] at hp
    cases hp
    cases rx with
    | cons r1 r2 =>
    cases r2
    obtain ⟨a, ys, rfl, h1, h2⟩ := asL_is hS r1 e
    exact ⟨a, ys, rfl, .inl ⟨.inl (.inl h1), fun l nl => hq _ _ (hS.laid nl) (Kp.new nl) (Is.tup (.inl ⟨.inl upd_same, hS.free nl⟩) (h2.keep (Kp.new nl).q (Gr.refl _ _)))⟩⟩
  · cases hp
/-- the ints, the bools of data -/
def intsD : List PyData → Option (List Int)
  | [] => some []
  | .int i :: r => (intsD r).map (i :: ·)
  | _ :: _ => none
def boolsD : List PyData → Option (List Bool)
  | [] => some []
  | .bool i :: r => (boolsD r).map (i :: ·)
  | _ :: _ => none
theorem intsD_eq : ∀ {ds : List PyData} {ns : List Int}, intsD ds = some ns → ds = ns.map .int
  | [], _, h => by cases h; rfl
  | .int i :: r, ns, h => by
    unfold intsD at h
    cases e : intsD r with
    | none => rw [e] at h; cases h
    | some ms =>
      rw [e] at h
      cases h
      rw [intsD_eq e]; rfl
  | .none :: _, _, h => by cases h
  | .bool _ :: _, _, h => by cases h
  | .str _ :: _, _, h => by cases h
  | .list _ :: _, _, h => by cases h
  | .tuple _ :: _, _, h => by cases h
  | .dict _ :: _, _, h => by cases h
theorem boolsD_eq : ∀ {ds : List PyData} {ns : List Bool}, boolsD ds = some ns → ds = ns.map .bool
  | [], _, h => by cases h; rfl
  | .bool i :: r, ns, h => by
    unfold boolsD at h
    cases e : boolsD r with
    | none => rw [e] at h; cases h
    | some ms =>
      rw [e] at h
      cases h
      rw [boolsD_eq e]; rfl
  | .none :: _, _, h => by cases h
  | .int _ :: _, _, h => by cases h
  | .str _ :: _, _, h => by cases h
  | .list _ :: _, _, h => by cases h
  | .tuple _ :: _, _, h => by cases h
  | .dict _ :: _, _, h => by cases h
theorem intsD_map (ns : List Int) : intsD (ns.map .int) = some ns := by
  induction ns with
  | nil => rfl
  | cons n ns ih => simp [intsD, ih]
theorem boolsD_map (ns : List Bool) : boolsD (ns.map .bool) = some ns := by
  induction ns with
  | nil => rfl
  | cons n ns ih => simp [boolsD, ih]
@[simp] def pSum : List SV → Sto → Option SV
  | [x], S => (asL x S).bind fun ds => (intsD ds).map fun ns => .d (.int ns.sum)
  | _, _ => none
@[simp] def pAll : List SV → Sto → Option SV
  | [x], S => (asL x S).bind fun ds => (boolsD ds).map fun ns => .d (.bool (ns.all id))
  | _, _ => none
@[simp] def pAny : List SV → Sto → Option SV
  | [x], S => (asL x S).bind fun ds => (boolsD ds).map fun ns => .d (.bool (ns.any id))
  | _, _ => none
theorem cak_sum : CaK X (rSum X.K) pSum := by
  intro f S H vs xs z Q hS rx hp hq
  unfold pSum at hp
  split at hp
  · rename_i x
    cases e : asL x S with
    | none => rw [e] at hp; cases hp
    | some ds =>
    rw [e] at hp
    cases ei : intsD ds with
    | none => dsimp only [Option.bind_some] at hp; rw [ei] at hp; cases hp
    | some ns =>
    dsimp only [Option.bind_some] at hp
    rw [ei] at hp
    cases hp
    cases rx with
    | cons r1 r2 =>
    cases r2
    obtain ⟨a, ys, rfl, h1, h2⟩ := asL_is hS r1 e
    rw [intsD_eq ei] at h2
    have := h2.ints
    subst this
    exact ⟨a, ns, rfl, .inl (.inl h1), hq _ H hS (Kp.refl _ _) (Is.int _)⟩
  · cases hp
theorem cak_all : CaK X (rAll X.K) pAll := by
  intro f S H vs xs z Q hS rx hp hq
  unfold pAll at hp
  split at hp
  · rename_i x
    cases e : asL x S with
    | none => rw [e] at hp; cases hp
    | some ds =>
    rw [e] at hp
    cases ei : boolsD ds with
    | none => dsimp only [Option.bind_some] at hp; rw [ei] at hp; cases hp
    | some ns =>
    dsimp only [Option.bind_some] at hp
    rw [ei] at hp
    cases hp
    cases rx with
    | cons r1 r2 =>
    cases r2
    obtain ⟨a, ys, rfl, h1, h2⟩ := asL_is hS r1 e
    rw [boolsD_eq ei] at h2
    have := h2.bools
    subst this
    exact ⟨a, ns, rfl, .inl (.inl h1), hq _ H hS (Kp.refl _ _) (Is.bl _)⟩
  · cases hp
theorem cak_any : CaK X (rAny X.K) pAny := by
  intro f S H vs xs z Q hS rx hp hq
  unfold pAny at hp
  split at hp
  · rename_i x
    cases e : asL x S with
    | none => rw [e] at hp; cases hp
    | some ds =>
    rw [e] at hp
    cases ei : boolsD ds with
    | none => dsimp only [Option.bind_some] at hp; rw [ei] at hp; cases hp
    | some ns =>
    dsimp only [Option.bind_some] at hp
    rw [ei] at hp
    cases hp
    cases rx with
    | cons r1 r2 =>
    cases r2
    obtain ⟨a, ys, rfl, h1, h2⟩ := asL_is hS r1 e
    rw [boolsD_eq ei] at h2
    have := h2.bools
    subst this
    exact ⟨a, ns, rfl, .inl (.inl h1), hq _ H hS (Kp.refl _ _) (Is.bl _)⟩
  · cases hp

/-! ## repr of data -/
mutual
theorem noDict_dp {K : PySem.W.Frag} {H : Hp} : ∀ {d : PyData} {v : V}, Dp K H v d → d.hasDict = false
  | .none, _, _ => by simp [PyData.hasDict]
  | .bool _, _, _ => by simp [PyData.hasDict]
  | .int _, _, _ => by simp [PyData.hasDict]
  | .str _, _, _ => by simp [PyData.hasDict]
  | .list ds, _, h => by
    cases h with
    | lst h r => simpa [PyData.hasDict] using noDict_all r
  | .tuple ds, _, h => by
    cases h with
    | tup h r => simpa [PyData.hasDict] using noDict_all r
  | .dict _, _, h => by cases h
theorem noDict_all {K : PySem.W.Frag} {H : Hp} : ∀ {ds : List PyData} {vs : List V}, DpAll K H vs ds → PyData.hasDictAll ds = false
  | [], _, _ => by simp [PyData.hasDictAll]
  | d :: ds, _, h => by
    cases h with
    | cons h r => simp [PyData.hasDictAll, noDict_dp h, noDict_all r]
end
def rRepr (K : PySem.W.Frag) : List V → Hp → VK → Prop := fun vs H Q => ∃ v d, vs = [v] ∧ Dp K H v d ∧ d.showable = true ∧ d.depth ≤ 100 ∧ d.shown.length ≤ sizeLine ∧ Q (.str d.shown) H
theorem call_repr_d {k : Nat} (G : Gd X W k) : CallR X (.builtin "repr") (rRepr X.K) := by
  intro pins s σ H vs us Q I rv h
  obtain ⟨v, d, rfl, dp, hs, hd, hz, q⟩ := h
  obtain ⟨u, rfl, ru⟩ := vals1 rv
  have room := G.hr.un
  have fin : ∀ (tk : Tok), EP X pins σ Q (.str d.shown tk) { s with toks := s.toks + 1 } := fun tk => ⟨.str d.shown, H, I.tok _, ⟨_, rfl⟩, q⟩
  cases dp with
  | non =>
    cases ru
    exact PySem.P.repr_of_none (fin _)
  | bl b =>
    cases ru
    exact PySem.P.repr_of_bool (fin _)
  | int i =>
    obtain ⟨t, rfl⟩ := ru
    have hl : i.natAbs.log2 < 1920 := by simpa [PyData.showable] using hs
    exact PySem.P.repr_of_int hl (fin _)
  | str x =>
    obtain ⟨t, rfl⟩ := ru
    exact PySem.P.repr_of_str (fin _) hz
  | @lst a xs ds h1 h2 =>
    cases ru
    obtain ⟨as, r⟩ := Dp.reads I _ _ _ (Dp.lst h1 h2) (show RelV (.ref a) (.ref a) from rfl)
    have nd : (PyData.list ds).hasDict = true → sysModules ∉ as := fun e => by
      have := noDict_dp (Dp.lst h1 h2)
      rw [this] at e; cases e
    exact repr_of_reads' r hs nd G.gd (by omega) (fun _ _ e => e) (fun h' u tk hk => ⟨.str _, H, I.kept hk, ⟨_, rfl⟩, q⟩) hz
  | @tup a xs ds h1 h2 =>
    cases ru
    obtain ⟨as, r⟩ := Dp.reads I _ _ _ (Dp.tup h1 h2) (show RelV (.ref a) (.ref a) from rfl)
    have nd : (PyData.tuple ds).hasDict = true → sysModules ∉ as := fun e => by
      have := noDict_dp (Dp.tup h1 h2)
      rw [this] at e; cases e
    exact repr_of_reads' r hs nd G.gd (by omega) (fun _ _ e => e) (fun h' u tk hk => ⟨.str _, H, I.kept hk, ⟨_, rfl⟩, q⟩) hz
def okR (d : PyData) : Prop := d.showable = true ∧ d.depth ≤ 100 ∧ d.shown.length ≤ sizeLine ∧ d.hasDict = false
open Classical in
@[simp] noncomputable def pRepr : List SV → Sto → Option SV
  | [x], S => (res x S).bind fun d => if okR d then some (.d (.str d.shown)) else none
  | _, _ => none
theorem cak_repr : CaK X (rRepr X.K) pRepr := by
  intro f S H vs xs z Q hS rx hp hq
  unfold pRepr at hp
  split at hp
  · rename_i x
    cases e : res x S with
    | none => rw [e] at hp; cases hp
    | some d =>
    rw [e] at hp
    dsimp only [Option.bind_some] at hp
    split at hp
    · rename_i h
      cases hp
      cases rx with
      | cons r1 r2 =>
      cases r2
      exact ⟨_, d, rfl, res_dp hS r1 e h.2.2.2, h.1, h.2.1, h.2.2.1, hq _ H hS (Kp.refl _ _) (Is.str _)⟩
    · cases hp
  · cases hp
end
end Z
set_option maxRecDepth 100000
set_option maxHeartbeats 1000000
namespace Z
open PySem PySem.Spec PyProof.Rows L2

/-! ## isinstance with a built-in class -/
@[simp] def tyN : PyData → String
  | .none => "NoneType"
  | .bool _ => "bool"
  | .int _ => "int"
  | .str _ => "str"
  | .list _ => "list"
  | .tuple _ => "tuple"
  | .dict _ => "dict"
@[simp] def isN (t n : String) : Bool := t == n || (t == "bool" && n == "int")
@[simp] def tySV : SV → Sto → Option String
  | .d x, _ => some (tyN x)
  | .r i, S => match S[i]? with
    | some (.lst _) => some "list"
    | some (.dct _) => some "dict"
    | _ => none
  | .s _, _ => none
theorem tySV_is {K : PySem.W.Frag} {f : Ow} {S : Sto} {H : Hp} {v : V} {x : SV} {t : String} (hS : StoR K f S H) (r : SvR K f H v x) (e : tySV x S = some t) : TyX K H v (.type t) := by
  cases x with
  | d x =>
    cases e
    cases r with
    | non => exact .base .non
    | bl b => exact .base (.bl b)
    | int i => exact .base (.int i)
    | str x => exact .base (.str x)
    | lst h1 h2 => exact .base (.lst h1.1)
    | tup h1 h2 =>
      rcases h1 with ⟨h1 | ⟨o, h1⟩, _⟩ | ⟨o, its, n, h1, h2, _⟩
      · exact .base (.tup h1)
      · exact .fTuple h1
      · exact .kTuple h1 h2
    | dic h1 h2 h3 =>
      rcases h1 with h1 | ⟨o, h1⟩
      · exact .base (.dK h1)
      · exact .fDict h1
  | r i =>
    obtain ⟨a, ea, rfl⟩ := r
    simp only [tySV] at e
    split at e
    · rename_i ds e1
      cases e
      obtain ⟨vs, h1, h2⟩ := hS.at_ _ _ a e1 ea
      exact .base (.lst h1)
    · rename_i ds e1
      cases e
      obtain ⟨vs, h1, h2⟩ := hS.at_ _ _ a e1 ea
      exact .base (.dK h1)
    · cases e
  | s ns => cases e
@[simp] def eIsi (n : String) (a : Ex) (σ : Sg) (S : Sto) : Option (Res SV) := Res.bnd (a σ S) fun x S1 => (tySV x S1).map fun t => .ok (.d (.bool (isN t n))) S1
/-- the built-in classes that are asked for here -/
def asked (n : String) : Prop := n = "int" ∨ n = "bool" ∨ n = "str" ∨ n = "list" ∨ n = "tuple" ∨ n = "dict"
theorem kit_tab : ∀ t ∈ ["NoneType", "bool", "int", "str", "list", "tuple", "dict"], ∀ n ∈ ["int", "bool", "str", "list", "tuple", "dict"], kitB t n = some (isN t n) := by decide +kernel
theorem kit_all {K : PySem.W.Frag} {n : String} (hn : asked n) (d : PyData) : PySem.W.kitOne K (.type (tyN d)) (.type n) = some (isN (tyN d) n) := by
  have h2 : n ∈ ["int", "bool", "str", "list", "tuple", "dict"] := by rcases hn with rfl | rfl | rfl | rfl | rfl | rfl <;> simp
  have h1 : tyN d ∈ ["NoneType", "bool", "int", "str", "list", "tuple", "dict"] := by cases d <;> simp [tyN]
  exact kit_ty (kit_tab _ h1 _ h2)
theorem kit_sv {K : PySem.W.Frag} {n t : String} {x : SV} {S : Sto} (hn : asked n) (e : tySV x S = some t) : PySem.W.kitOne K (.type t) (.type n) = some (isN t n) := by
  cases x with
  | d x => cases e; exact kit_all hn x
  | r i =>
    simp only [tySV] at e
    split at e
    · cases e; exact kit_all hn (.list [])
    · cases e; exact kit_all hn (.dict [])
    · cases e
  | s ns => cases e
section
variable {X : Cx} {W : WX} {a b c o : Expr} {es : List Expr} {ea eb ec eo : Ex} {fs : Exs} {pos p0 p1 apos : Pos}
theorem de_isi {n : String} {x : Str} (hn : asked n) (hm : X.mg "isinstance" = none) (hmT : X.mg x = none) (hv : bootBuiltins x = some (.type n)) (ha : DE X W a ea) (hg : Gl X "isinstance" := by rfl) (hgT : Gl X x := by rfl)
    (hn1 : x ≠ "__name__" := by decide) (hd1 : (x == ("__debug__" : Str)) = false := by decide)
    (he : starEach [a, .Name x p1] X.env = (false, eval a X.env) :: starEach [.Name x p1] X.env := by rfl) (he2 : starEach [.Name x p1] X.env = (false, eval (.Name x p1) X.env) :: starEach [] X.env := by rfl)
    (hpl : (backTo pos (starEach [.Name x p1] X.env)).any (·.1) = false := by rfl) : DE X W (.Call (.Name "isinstance" p0) [a, .Name x p1] [] pos) (eIsi n ea) :=
  pe_imp (pe_callB call_isi hg hm PyProof.Rows.boot_isinstance (pa_cons ha (pa_cons (pe_bltn hgT hmT hv (v := .ty n) rfl hn1 hd1) pa_nil he2) he) (he := he) (hpl := hpl)) fun σV H Q ⟨f, σ, S, r, hE, hS, hr, hq⟩ => by
    refine TX.first hE hS hr (exc_way hq) fun y S1 vy H1 _ h1 s1 k1 e1 r1 => ?_
    cases e : tySV y S1 with
    | none => rw [e] at h1; cases h1
    | some t =>
      rw [e] at h1
      cases h1
      exact ⟨vy, .ty n, .type t, .type n, isN t n, rfl, .ty n, tySV_is s1 r1 e, kit_sv hn e, hq _ H1 s1 k1 (Is.bl _)⟩

/-! ## append, a store by place -/
@[simp] def eApp (eo ea : Ex) (σ : Sg) (S : Sto) : Option (Res SV) := Res.bnd (eo σ S) fun x S1 => match x with
  | .r i => match S1[i]? with
    | some (.lst _) => Res.bnd (ea σ S1) fun y S2 => match y with
      | .d d => match S2[i]? with
        | some (.lst ds) => if ds.length < sizeLine then some (.ok (.d .none) (S2.set i (.lst (ds ++ [d])))) else none
        | _ => none
      | _ => none
    | _ => none
  | _ => none
theorem de_append (ho : DE X W o eo) (ha : DE X W a ea) (hbase : attributeBase o "append" X.env (eval o X.env) = eval o X.env := by rfl)
    (hfew : ((backTo pos (starEach [a] X.env)).all (fun x => !x.1) && (backToKw pos (keywordEach [] X.env)).all (fun x => x.1.isSome)
      && decide ([a].length + ([] : List Keyword).length + (if ([] : List Keyword).isEmpty then 0 else 1) < 30)) = true := by rfl)
    (hline : (apos.endLine == pos.line) = true := by rfl) (hs : starEach [a] X.env = (false, eval a X.env) :: starEach [] X.env := by rfl) (hplain : (backTo pos (starEach [] X.env)).any (·.1) = false := by rfl) :
    DE X W (.Call (.Attribute o "append" apos) [a] [] pos) (eApp eo ea) :=
  pe_imp (pe_bm PySem.F.plainAttrs_list PySem.F.slot_list_append PySem.F.type_list_append mt_append ho (pa_cons ha pa_nil hs) hbase hfew hline hs hplain) fun σV H Q ⟨f, σ, S, r, hE, hS, hr, hq⟩ => by
    have hx := exc_way hq
    refine TX.first hE hS hr hx fun x S1 vx H1 g1 h1 s1 k1 e1 r1 => ?_
    cases x with
    | d x => cases h1
    | s ns => cases h1
    | r i =>
    obtain ⟨p, ep, rfl⟩ := r1
    dsimp only at h1
    split at h1
    case h_2 => cases h1
    rename_i ds0 es0
    obtain ⟨vs0, hv0, _⟩ := s1.at_ i _ p es0 ep
    refine ⟨.inl ⟨rfl, vs0, .inl (.inl hv0)⟩, ?_⟩
    refine TX.first e1 s1 h1 (fun y S' e => (hx y S' e).kp k1) fun y S2 vy H2 _ h2 s2 k2 e2 r2 => ?_
    cases y with
    | r j => cases h2
    | s ns => cases h2
    | d d =>
    dsimp only at h2
    split at h2
    · rename_i ds e3
      split at h2
      · rename_i hz
        cases h2
        obtain ⟨vs, hv, iv⟩ := s2.at_ i _ p e3 ep
        refine ⟨p, vs, vy, rfl, rfl, hv, by rw [iv.len]; exact hz, ?_⟩
        have kk : Kp f H2 (upd H2 p (.lst (vs ++ [vy]))) := Kp.put ep
        exact hq _ _ (s2.put ep ⟨_, upd_same, (iv.keep kk.q (Gr.refl _ _)).app (.cons (Is.keep kk.q (Gr.refl _ _) r2) .nil)⟩) ((k1.trans k2).trans kk) Is.non
      · cases h2
    · cases h2
/-- x[i] = v, x a list of the store -/
@[simp] def sSetIx (ev eo ei : Ex) (σ : Sg) (S : Sto) : Option Flow := Sm.bnd (ev σ S) fun v S1 => Sm.bnd (eo σ S1) fun o S2 => Sm.bnd (ei σ S2) fun i S3 => match v, o, i with
  | .d d, .r j, .d (.int k) => match S3[j]? with
    | some (.lst ds) => (ixN ds.length k).map fun n => .nx σ (S3.set j (.lst (ds.set n d)))
    | _ => none
  | _, _, _ => none
theorem ds_setIx {i : Expr} {ei ev : Ex} {tpos : Pos} {e : Expr} (he : DE X W e ev) (ho : DE X W o eo) (hi : DE X W i ei)
    (h0 : ∀ v, assign (.Subscript o i tpos) X.env v = (do
      let ov ← holding [v] (eval o X.env)
      let iv ← holding [v, ov] (eval i X.env)
      standAt tpos
      holding [v, ov, iv] (setItem ov iv v)
      release [v, ov, iv] []) := by intro _; rfl)
    (hs : swapsWithSole [.Subscript o i tpos] e pos.line X.env = pure false := by rfl) (hw : swappedStores [.Subscript o i tpos] e X.env = pure none := by rfl)
    (h1 : (assignEach [.Subscript o i tpos] X.env).map (·.2) = [assign (.Subscript o i tpos) X.env] := by rfl) : DS X W (.Assign [.Subscript o i tpos] e pos) (sSetIx ev eo ei) :=
  ps_imp (ps_asg he (pg_sub ho hi set_list h0) hs hw h1) fun D σV H ⟨f, σ, S, r, hE, hS, hr, hf⟩ => by
    refine TX.stm hE hS hr hf fun v S1 u H1 h1 f1 s1 k1 e1 r1 => ?_
    refine TX.stm e1 s1 h1 f1 fun x S2 vo H2 h2 f2 s2 k2 e2 r2 => ?_
    refine TX.stm e2 s2 h2 f2 fun y S3 vi H3 h3 f3 s3 k3 e3 r3 => ?_
    split at h3
    · rename_i d j k
      split at h3
      · rename_i ds eS
        cases en : ixN ds.length k with
        | none => rw [en] at h3; cases h3
        | some n =>
        rw [en] at h3
        cases h3
        obtain ⟨p, ep, rfl⟩ := r2
        cases r3
        obtain ⟨vs, hv, iv⟩ := s3.at_ j _ p eS ep
        have kk : Kp f H3 (upd H3 p (.lst (vs.set n u))) := Kp.put ep
        have s4 : StoR X.K f (S3.set j (.lst (ds.set n d))) (upd H3 p (.lst (vs.set n u))) := s3.put ep ⟨_, upd_same, (iv.keep kk.q (Gr.refl _ _)).set n (Is.keep kk.q (Gr.refl _ _) ((SvR.kp (x := .d d) r1 k2).kp k3))⟩
        refine ⟨p, vs, k, n, rfl, rfl, hv, by rw [iv.len]; exact en, ?_⟩
        exact ReS.now (f3.kp s4 kk) s4 (e3.kp kk)
      · cases h3
    · cases h3

/-! ## what is walked -/
/-- a list or a tuple, whichever -/
def iSeq (K : PySem.W.Frag) (t : TE) : TI := fun σ H R => t σ H fun x H1 => ∃ a, x = .ref a ∧ ((∃ xs, SqL K H1 a xs ∧ R (Itl K a) H1) ∨ (∃ xs, SqT K H1 a xs ∧ R (Itt K a) H1))
theorem pi_seq {X : Cx} {tg l : Expr} {t : TE} (hl : PE X l t) : PI X tg l (iSeq X.K t) := by
  refine ⟨fun pins s σ H R I h => thn (hl.run pins s σ H _ I h) fun v s1 ⟨x, H1, I1, r1, a, ex, q1⟩ => ?_⟩
  subst ex
  cases r1
  have mine : ∀ b ∈ [s1.heap.objs.size], FpOk X pins H1 b := fun b hb => by
    have eb : b = s1.heap.objs.size := by simpa using hb
    rw [eb]
    exact I1.fpOk (Nat.le_refl _) (I1.hok.fresh (Nat.le_refl _))
  have kept : ∀ ob : Obj, Inv X pins σ H1 { s1 with heap := s1.heap.push ob } := fun ob => I1.kept (t' := s1.toks) fun b u e => Heap.get?_push_of_some _ e
  rcases q1 with ⟨xs, hq, q⟩ | ⟨xs, hq, q⟩
  · obtain ⟨its, rv, pl, hz⟩ := I1.list hq
    exact wpAny_pyIter_list pl.isList ⟨_, [s1.heap.objs.size], _, _, H1, rfl, kept _, turn_list a _, ⟨_, Heap.get?_push_size _ rfl, rfl, rfl⟩, mine, q⟩
  · obtain ⟨its, rv, pl, hz⟩ := I1.tuple hq
    exact wpAny_pyIter_tuple (show s1.heap.IsTuple a its.toArray from pl) ⟨_, [s1.heap.objs.size], _, _, H1, rfl, kept _, turn_tuple a _, ⟨_, Heap.get?_push_size _ rfl, rfl, rfl⟩, mine, q⟩
@[simp] def wSeqV (x : SV) (S : Sto) : Option Wk := match x with
  | .d (.list ds) => some ⟨ds, none⟩
  | .d (.tuple ds) => some ⟨ds, none⟩
  | .r i => match S[i]? with
    | some (.lst ds) => some ⟨ds, some (i, ds)⟩
    | _ => none
  | .s ns => some ⟨ns.map .int, none⟩
  | _ => none
@[simp] def wSeq (e : Ex) (σ : Sg) (S : Sto) : Option (Res Wk) := Res.bnd (e σ S) fun x S1 => (wSeqV x S1).map fun w => .ok w S1
theorem walks_lst {X : Cx} {f : Ow} {H : Hp} {a : Addr} {xs : List V} {ds : List PyData} {own : Option (Nat × List PyData)}
    (hl : ∀ (f' : Ow) (S : Sto) (H' : Hp), Kq f H H' → Gr f f' H → Pf f f' → StoR X.K f' S H' → gdOk own S → ∃ ys, SqL X.K H' a ys ∧ IsAll X.K f' H' ys ds) (hK : ∀ H' ys zs, SqL X.K H' a ys → SqL X.K H' a zs → True) : Walks X f H (Itl X.K a) ⟨ds, own⟩ := by
  refine ⟨fun i d f' S H' hd k g p s o => ?_, fun i f' S H' hi k g p s o => ?_⟩
  · obtain ⟨ys, h1, h2⟩ := hl f' S H' k g p s o
    obtain ⟨v, hv, iv⟩ := h2.get hd
    refine ⟨⟨ys, v, h1, hv⟩, fun x H'' ⟨e, hx⟩ => ?_⟩
    subst e
    have := hx ys h1
    rw [hv] at this
    cases this
    exact ⟨s, Kp.refl _ _, iv⟩
  · obtain ⟨ys, h1, h2⟩ := hl f' S H' k g p s o
    exact ⟨ys, h1, by rw [h2.len]; exact hi⟩
theorem walks_tup {X : Cx} {f : Ow} {H : Hp} {a : Addr} {xs : List V} {ds : List PyData} (h1 : LT X.K f H a xs) (h2 : IsAll X.K f H xs ds) : Walks X f H (Itt X.K a) ⟨ds, none⟩ := by
  refine ⟨fun i d f' S H' hd k g p s o => ?_, fun i f' S H' hi k g p s o => ?_⟩
  · obtain ⟨v, hv, iv⟩ := (h2.keep k g).get hd
    refine ⟨⟨xs, v, (h1.keep k g).sq, hv⟩, fun x H'' ⟨e, hx⟩ => ?_⟩
    subst e
    have := hx xs (h1.keep k g).sq
    rw [hv] at this
    cases this
    exact ⟨s, Kp.refl _ _, iv⟩
  · exact ⟨xs, (h1.keep k g).sq, by rw [h2.len]; exact hi⟩
theorem di_seq {tg l : Expr} {e : Ex} (hl : DE X W l e) : DI X W tg l (wSeq e) :=
  pi_imp (pi_seq hl) fun σV H R ⟨f, σ, S, r, hE, hS, hr, hq⟩ => by
    refine TX.first hE hS hr (fun x S' e => by subst e; exact hq) fun x S1 vx H1 _ h1 s1 k1 e1 r1 => ?_
    unfold wSeqV at h1
    split at h1
    · cases h1
      cases r1 with
      | @lst a xs ds g1 g2 =>
      exact ⟨a, rfl, .inl ⟨xs, g1.sq, hq _ H1 s1 k1 (walks_lst (xs := xs) (fun f' S H' k g p s o => ⟨xs, (g1.keep k g).sq, g2.keep k g⟩) fun _ _ _ _ _ => trivial)⟩⟩
    · cases h1
      cases r1 with
      | @tup a xs ds g1 g2 => exact ⟨a, rfl, .inr ⟨xs, g1.sq, hq _ H1 s1 k1 (walks_tup g1 g2)⟩⟩
    · rename_i i _
      split at h1
      · rename_i ds e0
        cases h1
        obtain ⟨a, ea, rfl⟩ := r1
        obtain ⟨vs, g1, g2⟩ := s1.at_ i _ a e0 ea
        refine ⟨a, rfl, .inl ⟨vs, .inl (.inl g1), hq _ H1 s1 k1 (walks_lst (xs := vs) (fun f' S H' k g p s o => ?_) fun _ _ _ _ _ => trivial)⟩⟩
        obtain ⟨ys, g3, g4⟩ := s.at_ i _ a (show S[i]? = some (.lst ds) from o) (p i a ea)
        exact ⟨ys, .inl (.inl g3), g4⟩
      · cases h1
    · rename_i ns _
      cases h1
      obtain ⟨a, rfl, g1⟩ := r1
      exact ⟨a, rfl, .inl ⟨_, g1.sq, hq _ H1 s1 k1 (walks_lst (xs := ns.map V.int) (fun f' S H' k g p s o => ⟨_, (g1.keep k g).sq, IsAll.of_ints ns⟩) fun _ _ _ _ _ => trivial)⟩⟩
    · cases h1
/-- range(j), range(i, j) -/
def upTo (lo : Int) (n : Nat) : List PyData := (List.range n).map fun (k : Nat) => .int (lo + (k : Int))
def small62 (i : Int) : Prop := -4611686018427387904 ≤ i ∧ i < 4611686018427387904
noncomputable instance (i : Int) : Decidable (small62 i) := Classical.propDecidable _
@[simp] noncomputable def wRng1 (e : Ex) (σ : Sg) (S : Sto) : Option (Res Wk) := Res.bnd (e σ S) fun x S1 => match x with
  | .d (.int j) => if small62 j then some (.ok ⟨upTo 0 j.toNat, none⟩ S1) else none
  | _ => none
@[simp] noncomputable def wRng2 (a b : Ex) (σ : Sg) (S : Sto) : Option (Res Wk) := Res.bnd (a σ S) fun x S1 => Res.bnd (b σ S1) fun y S2 => match x, y with
  | .d (.int i), .d (.int j) => if small62 i ∧ small62 j then some (.ok ⟨upTo i (j - i).toNat, none⟩ S2) else none
  | _, _ => none
theorem walks_rng {X : Cx} {f : Ow} {H : Hp} {lo : Int} {n : Nat} : Walks X f H (Itr lo n) ⟨upTo lo n, none⟩ := by
  refine ⟨fun i d f' S H' hd k g p s o => ?_, fun i f' S H' hi k g p s o => ?_⟩
  · have hi : i < n := by
      have := (List.getElem?_eq_some_iff.mp hd).1
      simpa [upTo] using this
    refine ⟨hi, fun x H'' ⟨e, hx⟩ => ?_⟩
    subst e hx
    have : d = .int (lo + (i : Int)) := by
      have h : (upTo lo n)[i]? = some d := hd
      unfold upTo at h
      rw [List.getElem?_map, List.getElem?_range hi] at h
      exact (Option.some.inj h).symm
    subst this
    exact ⟨s, Kp.refl _ _, Is.int _⟩
  · have hi : (upTo lo n).length ≤ i := hi
    have hi : n ≤ i := by simpa [upTo] using hi
    exact hi
theorem small62_pow {i : Int} (h : small62 i) : -(2 ^ 62) ≤ i ∧ i < 2 ^ 62 := by
  have e : (2 : Int) ^ 62 = 4611686018427387904 := by decide
  rw [e]
  exact h
theorem di_rng1 {tg : Expr} (hm : X.mg "range" = none) (ha : DE X W a ea) (hg : Gl X "range" := by rfl) (hs : starEach [a] X.env = [(false, eval a X.env)] := by rfl) : DI X W tg (.Call (.Name "range" p0) [a] [] pos) (wRng1 ea) :=
  pi_imp (pi_range1 hg hm (pa_cons ha pa_nil hs) hs) fun σV H R ⟨f, σ, S, r, hE, hS, hr, hq⟩ => by
    refine TX.first hE hS hr (fun x S' e => by subst e; exact hq) fun x S1 vx H1 _ h1 s1 k1 e1 r1 => ?_
    split at h1
    · split at h1
      · rename_i hz
        cases h1
        cases r1
        have := small62_pow hz
        exact ⟨_, rfl, this.1, this.2, hq _ H1 s1 k1 walks_rng⟩
      · cases h1
    · cases h1
theorem di_rng2 {tg : Expr} (hm : X.mg "range" = none) (ha : DE X W a ea) (hb : DE X W b eb) (hg : Gl X "range" := by rfl) (hs : starEach [a, b] X.env = [(false, eval a X.env), (false, eval b X.env)] := by rfl) (hs2 : starEach [b] X.env = [(false, eval b X.env)] := by rfl) : DI X W tg (.Call (.Name "range" p0) [a, b] [] pos) (wRng2 ea eb) :=
  pi_imp (pi_range2 hg hm (pa_cons ha (pa_cons hb pa_nil hs2) (by rw [hs, hs2])) hs hs2) fun σV H R ⟨f, σ, S, r, hE, hS, hr, hq⟩ => by
    have hx : ∀ x S', r = .exc x S' → XS X W f σV H x S' := fun x S' e => by subst e; exact hq
    refine TX.first hE hS hr hx fun x S1 vx H1 _ h1 s1 k1 e1 r1 => ?_
    refine TX.first e1 s1 h1 (fun y S' e => (hx y S' e).kp k1) fun y S2 vy H2 _ h2 s2 k2 e2 r2 => ?_
    split at h2
    · split at h2
      · rename_i hz
        cases h2
        cases r1
        cases r2
        have h3 := small62_pow hz.1
        have h4 := small62_pow hz.2
        exact ⟨_, _, rfl, ⟨h3.1, h3.2, h4.1, h4.2⟩, hq _ H2 s2 (k1.trans k2) walks_rng⟩
      · cases h2
    · cases h2
/-- zip of two lists, of two tuples -/
def zipD : List PyData → List PyData → List PyData
  | x :: xs, y :: ys => .tuple [x, y] :: zipD xs ys
  | _, _ => []
theorem zipD_len : ∀ (xs ys : List PyData), (zipD xs ys).length = min xs.length ys.length
  | [], _ => by simp [zipD]
  | _ :: _, [] => by simp [zipD]
  | x :: xs, y :: ys => by simp [zipD, zipD_len xs ys]
theorem zipD_get : ∀ {xs ys : List PyData} {i : Nat} {d : PyData}, (zipD xs ys)[i]? = some d → ∃ x y, xs[i]? = some x ∧ ys[i]? = some y ∧ d = .tuple [x, y]
  | [], _, _, _, h => by simp [zipD] at h
  | _ :: _, [], _, _, h => by simp [zipD] at h
  | x :: xs, y :: ys, 0, d, h => by simp [zipD] at h; exact ⟨x, y, rfl, rfl, h.symm⟩
  | x :: xs, y :: ys, i + 1, d, h => by
    have h : (zipD xs ys)[i]? = some d := by simpa [zipD] using h
    obtain ⟨a, b, h1, h2, h3⟩ := zipD_get h
    exact ⟨a, b, by simpa using h1, by simpa using h2, h3⟩
@[simp] def wZip (a b : Ex) (σ : Sg) (S : Sto) : Option (Res Wk) := Res.bnd (a σ S) fun x S1 => Res.bnd (b σ S1) fun y S2 => match x, y with
  | .d (.list xs), .d (.list ys) => some (.ok ⟨zipD xs ys, none⟩ S2)
  | .d (.tuple xs), .d (.tuple ys) => some (.ok ⟨zipD xs ys, none⟩ S2)
  | _, _ => none
theorem di_zip {elts : List Expr} {kk : Nat} {tpos : Pos} (hm : X.mg "zip" = none) (ha : DE X W a ea) (hb : DE X W b eb) (hg : Gl X "zip" := by rfl)
    (hs : starEach [a, b] X.env = (false, eval a X.env) :: starEach [b] X.env := by rfl) (hs2 : starEach [b] X.env = (false, eval b X.env) :: starEach [] X.env := by rfl) (hpl : (backTo pos (starEach [b] X.env)).any (·.1) = false := by rfl) : DI X W (.Tuple elts kk tpos) (.Call (.Name "zip" p0) [a, b] [] pos) (wZip ea eb) :=
  pi_imp (RZ.pi_zipA hg hm (pa_cons ha (pa_cons hb pa_nil hs2) hs) hs hpl) fun σV H R ⟨f, σ, S, r, hE, hS, hr, hq⟩ => by
    have hx : ∀ x S', r = .exc x S' → XS X W f σV H x S' := fun x S' e => by subst e; exact hq
    refine TX.first hE hS hr hx fun x S1 vx H1 _ h1 s1 k1 e1 r1 => ?_
    refine TX.first e1 s1 h1 (fun y S' e => (hx y S' e).kp k1) fun y S2 vy H2 _ h2 s2 k2 e2 r2 => ?_
    split at h2
    · cases h2
      have r1 := SvR.kp r1 k2
      cases r1 with
      | @lst a xs ds g1 g2 =>
      cases r2 with
      | @lst b ys es g3 g4 =>
      refine ⟨a, b, xs, ys, rfl, .inl ⟨g1.sq, g3.sq, hq _ H2 s2 (k1.trans k2) ⟨fun i d f' S H' hd k g p s o => ?_, fun i f' S H' hi k g p s o => ?_⟩⟩⟩
      · obtain ⟨d1, d2, e1, e2, rfl⟩ := zipD_get hd
        obtain ⟨v1, hv1, iv1⟩ := (g2.keep k g).get e1
        obtain ⟨v2, hv2, iv2⟩ := (g4.keep k g).get e2
        refine ⟨⟨xs, ys, v1, v2, (g1.keep k g).sq, (g3.keep k g).sq, hv1, hv2⟩, fun x H'' ⟨T, x1, x2, ex, nT, eH, f1, f2⟩ => ?_⟩
        subst ex eH
        have q1 := f1 xs (g1.keep k g).sq
        have q2 := f2 ys (g3.keep k g).sq
        rw [hv1] at q1
        rw [hv2] at q2
        cases q1
        cases q2
        exact ⟨s.laid nT, Kp.new nT, Is.tup (.inl ⟨.inl upd_same, s.free nT⟩) (.cons (Is.keep (Kp.new nT).q (Gr.refl _ _) iv1) (.cons (Is.keep (Kp.new nT).q (Gr.refl _ _) iv2) .nil))⟩
      · have hi : (zipD _ _).length ≤ i := hi
        rw [zipD_len] at hi
        exact ⟨xs, ys, (g1.keep k g).sq, (g3.keep k g).sq, by rw [g2.len, g4.len]; omega⟩
    · cases h2
      have r1 := SvR.kp r1 k2
      cases r1 with
      | @tup a xs ds g1 g2 =>
      cases r2 with
      | @tup b ys es g3 g4 =>
      refine ⟨a, b, xs, ys, rfl, .inr ⟨g1.sq, g3.sq, hq _ H2 s2 (k1.trans k2) ⟨fun i d f' S H' hd k g p s o => ?_, fun i f' S H' hi k g p s o => ?_⟩⟩⟩
      · obtain ⟨d1, d2, e1, e2, rfl⟩ := zipD_get hd
        obtain ⟨v1, hv1, iv1⟩ := (g2.keep k g).get e1
        obtain ⟨v2, hv2, iv2⟩ := (g4.keep k g).get e2
        refine ⟨⟨xs, ys, v1, v2, (g1.keep k g).sq, (g3.keep k g).sq, hv1, hv2⟩, fun x H'' ⟨T, x1, x2, ex, nT, eH, f1, f2⟩ => ?_⟩
        subst ex eH
        have q1 := f1 xs (g1.keep k g).sq
        have q2 := f2 ys (g3.keep k g).sq
        rw [hv1] at q1
        rw [hv2] at q2
        cases q1
        cases q2
        exact ⟨s.laid nT, Kp.new nT, Is.tup (.inl ⟨.inl upd_same, s.free nT⟩) (.cons (Is.keep (Kp.new nT).q (Gr.refl _ _) iv1) (.cons (Is.keep (Kp.new nT).q (Gr.refl _ _) iv2) .nil))⟩
      · have hi : (zipD _ _).length ≤ i := hi
        rw [zipD_len] at hi
        exact ⟨xs, ys, (g1.keep k g).sq, (g3.keep k g).sq, by rw [g2.len, g4.len]; omega⟩
    · cases h2
/-- t[lo:hi] of a tuple -/
def cutD (ds : List PyData) (lo hi : Option Int) : List PyData := (ds.drop (HT.sIx ds.length 0 lo)).take (HT.sIx ds.length ds.length hi - HT.sIx ds.length 0 lo)
theorem cut_is {K : PySem.W.Frag} {f : Ow} {H : Hp} {xs : List V} {ds : List PyData} (h : IsAll K f H xs ds) (lo hi : Option Int) : IsAll K f H (cutV xs lo hi) (cutD ds lo hi) := by
  unfold cutV cutD
  rw [h.len]
  exact (h.drop _).take _
end
end Z
set_option maxRecDepth 100000
set_option maxHeartbeats 1000000
namespace Z
open PySem PySem.Spec PyProof.Rows L2

/-! ## the law's own call -/
section
variable {P : Program} {w : World} {K : PySem.W.Frag} {mg mb : Str → Option Value} {k : Nat} {fa a : Addr} {g : Fn} {s₁ : Shared} {vs : List Value} {ns : List Int}
theorem law_at (hK : K.In s₁.heap) (hN : s₁.heap.Ns mainGlobals mg) (hB : s₁.heap.Ns builtinsNs mb) (hBB : ∀ x : Str, x ≠ "__name__" → mb x = bootBuiltins x) (hL : s₁.heap.NoLimit) (hG : s₁.gens = #[])
    (hobj : s₁.heap.get? a = some { cls := .type "list", data := .seq vs.toArray }) (hi : IntsAre vs ns) (hz : ns.length ≤ sizeLine) (hr : Room k callerA) (hfa : mg "law" = some (.ref fa))
    (F : ∀ base : Heap, K.In base → base.Ns mainGlobals mg → FnG P w K mg base k "law" g) (hg : g [.s ns] [] = some (.ok (.d (.bool true)) [])) :
    codeAny (model P w) callerA (.call (.ref fa) ⟨[.ref a], []⟩) (fun r s' => r = .ok (.ret (.bool true)) ∧ OldK s₁.heap s'.heap ∧ s'.os = s₁.os ∧ AllBare s'.gens) s₁ := by
  have lenV : vs.length = ns.length := by
    have : ∀ {us : List Value} {ms : List Int}, IntsAre us ms → us.length = ms.length := by
      intro us ms h
      induction h with
      | nil => rfl
      | cons _ _ _ ih => simp [ih]
    exact this hi
  have relV : Vals (ns.map V.int) vs := by
    have : ∀ {us : List Value} {ms : List Int}, IntsAre us ms → Vals (ms.map V.int) us := by
      intro us ms h
      induction h with
      | nil => exact .nil
      | cons n t _ ih => exact .cons ⟨t, rfl⟩ ih
    exact this hi
  -- what is tracked: the script alone, unless it is the module's own
  have main : ∀ H : Hp, (∀ b, H b = none ∨ (b = a ∧ ∃ o, H b = some (.frz o (.lst (ns.map V.int))))) → HOk P w H s₁.heap → LS K ⟨[], []⟩ H a (ns.map V.int) → (∀ o, K.lookup a = some o → H a = none) →
      codeAny (model P w) callerA (.call (.ref fa) ⟨[.ref a], []⟩) (fun r s' => r = .ok (.ret (.bool true)) ∧ OldK s₁.heap s'.heap ∧ s'.os = s₁.os ∧ AllBare s'.gens) s₁ := by
    intro H hH hok hls hKa
    have free : ∀ b, b ≠ a → H b = none := fun b hb => (hH b).elim id fun z => absurd z.1 hb
    have keep : ∀ b o, s₁.heap.get? b = some o → (∀ q, o.data ≠ .seq vs.toArray q) → (hidT s₁.heap H).get? b = some o := fun b o e hd => hidT_get e (free b fun z => by
      subst z
      rw [hobj] at e
      cases e
      exact hd _ rfl)
    have ns' : ∀ {b : Addr} {m : Str → Option Value}, s₁.heap.Ns b m → (hidT s₁.heap H).Ns b m := fun {b m} ⟨o, es, ep, e, d, r⟩ => ⟨o, es, ep, keep b o e (fun q z => by rw [d] at z; cases z), d, r⟩
    have inK : K.In (hidT s₁.heap H) := fun b o e => hidT_get (hK b o e) (by
      by_cases hb : b = a
      · subst hb; exact hKa o e
      · exact free b hb)
    have lim : (hidT s₁.heap H).NoLimit := let ⟨mc, q1, q2⟩ := hL; ⟨mc, ns' q1, q2⟩
    obtain ⟨f', hm, hk, run⟩ := (F _ inK (ns' hN)).ex
    rw [hfa] at hm
    cases hm
    have env : Env0 P w K mg (hidT s₁.heap H) callerA [] s₁ H :=
      { frames := rfl, mod := { kin := inK, glob := ns' hN, blt := ⟨mb, ns' hB, hBB⟩, nolimit := lim }, bs := fun b o e => of_hidT e, bsz := Nat.le_of_eq (hidT_size _ _), funs := trivial, frf := (fun b hb => (nomatch hb)), hok := hok, bare := .of_eq hG }
    have pre : SpG K mg g [.ref a] H (fun v _ => v = .bl true) (fun _ _ _ => False) :=
      ⟨⟨[], []⟩, [], [.s ns], _, ⟨rfl, List.nodup_nil, (fun i o b e => by simp at e), (fun b m => nomatch m), fun b m => nomatch m⟩, .cons ⟨a, rfl, hls⟩ .nil, hg, fun v H' _ _ r => by cases r; rfl⟩
    refine codeAny_mono (run callerA [] s₁ H [.ref a] [.ref a] _ _ hr rfl env (.cons rfl .nil) pre) fun r s' h => ?_
    rcases r with e | fl
    case ok =>
      cases fl with
      | ret u =>
        obtain ⟨v, H', os, bare, un, hok', rv, q⟩ := h
        have q : v = .bl true := q
        subst q
        cases rv
        refine ⟨rfl, OldK.of_keep fun b o e => ?_, os, bare⟩
        rcases hH b with z | ⟨_, ob, z⟩
        · exact un.keep b o e z (fun m => nomatch m) (fun m => nomatch m)
        · have z1 := (hok b _ z).1
          have z2 := (hok' b _ (un.frzs b ob _ z)).1
          rw [e] at z1
          cases z1
          exact z2
      | next => exact h.elim
      | brk => exact h.elim
      | cont => exact h.elim
    case error =>
      obtain ⟨_, _, _, _, _, _, _, _, _, _, _, _, z⟩ := h
      exact z.elim
  cases eK : K.lookup a with
  | some o =>
    have e := hK a o eK
    rw [hobj] at e
    cases e
    exact main (fun _ => none) (fun _ => .inl rfl) (fun b u z => nomatch z) (.inr ⟨_, vs.toArray, _, eK, rfl, rfl, rfl, by rw [List.size_toArray, lenV]; exact hz, by simpa using relV⟩) fun _ _ => rfl
  | none =>
    have here : ∀ b, (if b = a then some (HO.frz { cls := .type "list", data := .seq vs.toArray } (.lst (ns.map V.int))) else none) = none ∨ (b = a ∧ ∃ o, (if b = a then some (HO.frz { cls := .type "list", data := .seq vs.toArray } (.lst (ns.map V.int))) else none) = some (.frz o (.lst (ns.map V.int)))) := fun b => by
      by_cases hb : b = a
      · exact .inr ⟨hb, _, if_pos hb⟩
      · exact .inl (if_neg hb)
    refine main (fun b => if b = a then some (.frz { cls := .type "list", data := .seq vs.toArray } (.lst (ns.map V.int))) else none) here (fun b u z => ?_) (.inl ⟨.inr ⟨_, if_pos rfl⟩, ⟨(fun m => (nomatch m)), (fun m => (nomatch m))⟩⟩) fun o e => by rw [eK] at e; cases e
    by_cases hb : b = a
    · subst hb
      have z : some (HO.frz { cls := .type "list", data := .seq vs.toArray } (.lst (ns.map V.int))) = some u := by simpa using z
      cases z
      exact ⟨hobj, by rw [List.length_map]; exact hz, vs, _, relV, hobj⟩
    · have z : (if b = a then some (HO.frz { cls := .type "list", data := .seq vs.toArray } (.lst (ns.map V.int))) else none) = some u := z
      rw [if_neg hb] at z
      cases z
end
theorem walk_g {l : PySem.W.OpenLaw} {n k : Nat} {q : Program} {loose : List Str} {XP : (Str → Option Value) → Heap → Prop} {YP : World → Heap → Prop} {d : DefRec} {K : Params → PySem.W.Frag} {g : Fn}
    (hn : l.most = some n) (hn2 : n ≤ sizeLine) (hdf : d.params.defaults = []) (hdn : d.name = "law") (hr : Room k callerA) (hY : ∀ (w : World) (h : Heap), YP w h → (K w.params).In h)
    (F : ∀ (w : World) (mg : Str → Option Value) (fa : Addr) (h : Heap), (K w.params).In h → h.Ns mainGlobals mg → mg d.name = some (.ref fa) →
      ∀ base : Heap, (K w.params).In base → base.Ns mainGlobals mg → FnG l.prog w (K w.params) mg base k "law" g)
    (hg : ∀ ns : List Int, ns.length ≤ n → g [.s ns] [] = some (.ok (.d (.bool true)) [])) :
    PySem.W.WalkO q loose XP YP l.row.toRowW d [] (fun f vs => PySem.call f vs) :=
  Att.attach_call hn hdf fun w s₀ s₁ mg mb fa o pm cd doc a vs ns G Y ho hd hcd hmg hobj hints hlen hgens =>
    law_at (hY w _ Y) G.T.g G.T.b G.T.builtins G.T.nolimit hgens hobj hints (Nat.le_trans hlen hn2) hr (by rw [← hdn]; exact hmg) (F w mg fa _ (hY w _ Y) G.T.g hmg) (hg ns hlen)

/-! ## more targets -/
@[simp] def gTrip3 (a b c : Tg) (d : PyData) (σ : Sg) : Option Sg := match d with
  | .list [x, y, z] => ((a x σ).bind (b y)).bind (c z)
  | _ => none
theorem dg_trip3 {X : Cx} {pos : Pos} {e1 e2 e3 : Expr} {k : Nat} {g1 g2 g3 : Tg} {i1 i2 i3 : List Nat} (hc : X.calm = true) (h1 : DG X e1 g1 i1) (h2 : DG X e2 g2 i2) (h3 : DG X e3 g3 i3)
    (hs1 : (assignEach [e1, e2, e3] X.env).map (·.2) = assign e1 X.env :: (assignEach [e2, e3] X.env).map (·.2) := by rfl) (hs2 : (assignEach [e2, e3] X.env).map (·.2) = assign e2 X.env :: (assignEach [e3] X.env).map (·.2) := by rfl)
    (hs3 : (assignEach [e3] X.env).map (·.2) = assign e3 X.env :: (assignEach [] X.env).map (·.2) := by rfl)
    (hn : (assignEach [e1, e2, e3] X.env).length = 3 := by rfl) (hst : (assignEach [e1, e2, e3] X.env).findIdx? (·.1) = none := by rfl) : DG X (.Tuple [e1, e2, e3] k pos) (gTrip3 g1 g2 g3) (i1 ++ i2 ++ i3) :=
  pg_imp (pg_unl hc (pgs_cons h1 (pgs_cons h2 (pgs_cons h3 pgs_nil hs3) hs2) hs1) hn hst) fun v σV H Q ⟨f, σ, σ', d, hE, hv, hg, q⟩ => by
    unfold gTrip3 at hg
    split at hg
    · rename_i x y z
      cases hv with
      | @lst a xs _ ht ha =>
      cases ha with
      | @cons v1 vs1 _ _ h1' r1 =>
      cases r1 with
      | @cons v2 vs2 _ _ h2' r2 =>
      cases r2 with
      | @cons v3 vs3 _ _ h3' r3 =>
      cases r3
      cases hg1 : g1 x σ with
      | none => rw [hg1] at hg; cases hg
      | some σ1 =>
        rw [hg1] at hg
        have hg : (g2 y σ1).bind (g3 z) = some σ' := hg
        cases hg2 : g2 y σ1 with
        | none => rw [hg2] at hg; cases hg
        | some σ2 =>
          rw [hg2] at hg
          have hg : g3 z σ2 = some σ' := hg
          exact ⟨a, _, rfl, ht.sq, rfl, v1, [v2, v3], rfl, ⟨f, σ, σ1, x, hE, h1', hg1, fun σV1 e1 a1 => ⟨v2, [v3], rfl, ⟨f, σ1, σ2, y, e1, h2', hg2, fun σV2 e2 a2 => ⟨v3, [], rfl, ⟨f, σ2, σ', z, e2, h3', hg, fun σV3 e3 a3 => ⟨rfl, q σV3 e3 ((a1.trans a2).trans a3)⟩⟩⟩⟩⟩⟩⟩
    · cases hg
end Z
set_option maxRecDepth 100000
set_option maxHeartbeats 1000000
namespace Z
open PySem PySem.Spec PyProof.Rows L2

/-! ## short words -/
instance (n : String) : Decidable (asked n) := by unfold asked; exact inferInstance
theorem de_globI {X : Cx} {W : WX} {pos : Pos} {x : Str} {i : Int} {t : Tok} (hm : X.mg x = some (.int i t)) (hg : Gl X x := by rfl) (hd : (x == ("__debug__" : Str)) = false := by decide) : DE X W (.Name x pos) (eLit (.int i)) := de_glob hg hm (v := .int i) ⟨t, rfl⟩ (fun _ _ => Is.int i) hd
/-- the names that are built in still are -/
structure NB (mg : Str → Option Value) : Prop where
  len : mg "len" = none
  range : mg "range" = none
  max : mg "max" = none
  min : mg "min" = none
  abs : mg "abs" = none
  int : mg "int" = none
  bool : mg "bool" = none
  str : mg "str" = none
  tuple : mg "tuple" = none
  list : mg "list" = none
  dict : mg "dict" = none
  sum : mg "sum" = none
  all : mg "all" = none
  any : mg "any" = none
  repr : mg "repr" = none
  isinstance : mg "isinstance" = none
  zip : mg "zip" = none
  enumerate : mg "enumerate" = none
/-- int + int, or what is put together -/
@[simp] def pPlus : SV → SV → Sto → Option SV := fun x y S => match x, y with
  | .d (.int i), .d (.int j) => some (.d (.int (i + j)))
  | x, y => pCat x y S
@[simp] noncomputable def pTimes : SV → SV → Sto → Option SV := fun x y S => match x, y with
  | .d (.int i), .d (.int j) => if short i ∨ short j then some (.d (.int (i * j))) else none
  | x, y => pMulA x y S
section
variable {X : Cx} {W : WX} {k : Nat} {a b c o : Expr} {ea eb ec eo : Ex} {pos p0 p1 apos : Pos}
theorem de_plus (ha : DE X W a ea) (hb : DE X W b eb) : DE X W (.BinOp a .Add b pos) (eBin pPlus ea eb) := de_bin (OpR.or op_add (OpR.or (OpR.or op_catA op_cat) op_add_str)) (by
  intro f S H vx vy x y z Q hS rx ry hp hq
  unfold pPlus at hp
  split at hp
  · cases hp
    cases rx
    cases ry
    exact .inl ⟨_, _, rfl, rfl, hq _ H hS (Kp.refl _ _) (Is.int _)⟩
  · exact .inr (opk_cat f S H vx vy _ _ z Q hS rx ry hp hq)) ha hb
theorem de_times (ha : DE X W a ea) (hb : DE X W b eb) : DE X W (.BinOp a .Mult b pos) (eBin pTimes ea eb) := de_bin (OpR.or op_mul (OpR.or op_mulT op_rep)) (by
  intro f S H vx vy x y z Q hS rx ry hp hq
  unfold pTimes at hp
  split at hp
  · split at hp
    · rename_i h
      cases hp
      cases rx
      cases ry
      exact .inl ⟨_, _, rfl, rfl, h.imp short_pow short_pow, hq _ H hS (Kp.refl _ _) (Is.int _)⟩
    · cases hp
  · exact .inr (opk_mulA f S H vx vy _ _ z Q hS rx ry hp hq)) ha hb
theorem bt_max : bootBuiltins "max" = some (.builtin "max") := by decide +kernel
theorem bt_min : bootBuiltins "min" = some (.builtin "min") := by decide +kernel
theorem bt_abs : bootBuiltins "abs" = some (.builtin "abs") := by decide +kernel
theorem bt_int : bootBuiltins "int" = some (.type "int") := by decide +kernel
theorem bt_bool : bootBuiltins "bool" = some (.type "bool") := by decide +kernel
theorem bt_str : bootBuiltins "str" = some (.type "str") := by decide +kernel
theorem bt_tuple : bootBuiltins "tuple" = some (.type "tuple") := by decide +kernel
theorem bt_list : bootBuiltins "list" = some (.type "list") := by decide +kernel
theorem bt_dict : bootBuiltins "dict" = some (.type "dict") := by decide +kernel
theorem bt_sum : bootBuiltins "sum" = some (.builtin "sum") := by decide +kernel
theorem bt_all : bootBuiltins "all" = some (.builtin "all") := by decide +kernel
theorem bt_any : bootBuiltins "any" = some (.builtin "any") := by decide +kernel
theorem bt_repr : bootBuiltins "repr" = some (.builtin "repr") := by decide +kernel
theorem bt_len : bootBuiltins "len" = some (.builtin "len") := by decide +kernel
theorem da1 (ha : DE X W a ea) (hs : starEach [a] X.env = (false, eval a X.env) :: starEach [] X.env := by rfl) : DA X W [a] (esCons ea esNil) := da_cons ha da_nil hs
theorem da2 (ha : DE X W a ea) (hb : DE X W b eb) (hs : starEach [a, b] X.env = (false, eval a X.env) :: starEach [b] X.env := by rfl) (hs2 : starEach [b] X.env = (false, eval b X.env) :: starEach [] X.env := by rfl) : DA X W [a, b] (esCons ea (esCons eb esNil)) := da_cons ha (da_cons hb da_nil hs2) hs
section
variable (nb : NB X.mg)
@[simp] def eNeg (a : Ex) : Ex := eUn (fun x _ => match x with | .d (.int i) => some (.d (.int (-i))) | _ => none) a
theorem c_len (hm : X.mg "len" = none) (ha : DE X W a ea) (hg : Gl X "len" := by rfl) (h1 : starEach [a] X.env = (false, eval a X.env) :: starEach [] X.env := by rfl) (h2 : (backTo pos (starEach [] X.env)).any (·.1) = false := by rfl) : DE X W (.Call (.Name "len" p0) [a] [] pos) (eCa pLen (esCons ea esNil)) := de_callB call_len cak_len hg hm bt_len (da1 ha h1) (he := h1) (hpl := h2)
theorem c_abs (hm : X.mg "abs" = none) (ha : DE X W a ea) (hg : Gl X "abs" := by rfl) (h1 : starEach [a] X.env = (false, eval a X.env) :: starEach [] X.env := by rfl) (h2 : (backTo pos (starEach [] X.env)).any (·.1) = false := by rfl) : DE X W (.Call (.Name "abs" p0) [a] [] pos) (eCa pAbs (esCons ea esNil)) := de_callB call_abs cak_i1 hg hm bt_abs (da1 ha h1) (he := h1) (hpl := h2)
theorem c_int (hm : X.mg "int" = none) (ha : DE X W a ea) (hg : Gl X "int" := by rfl) (h1 : starEach [a] X.env = (false, eval a X.env) :: starEach [] X.env := by rfl) (h2 : (backTo pos (starEach [] X.env)).any (·.1) = false := by rfl) : DE X W (.Call (.Name "int" p0) [a] [] pos) (eCa pInt (esCons ea esNil)) := de_callTy call_int1 cak_int hg hm bt_int (da1 ha h1) (he := h1) (hpl := h2)
theorem c_str (hm : X.mg "str" = none) (ha : DE X W a ea) (hg : Gl X "str" := by rfl) (h1 : starEach [a] X.env = (false, eval a X.env) :: starEach [] X.env := by rfl) (h2 : (backTo pos (starEach [] X.env)).any (·.1) = false := by rfl) : DE X W (.Call (.Name "str" p0) [a] [] pos) (eCa pStr (esCons ea esNil)) := de_callTy (CallR.or call_str_int SkE.call_str_str) cak_str hg hm bt_str (da1 ha h1) (he := h1) (hpl := h2)
theorem c_list (hm : X.mg "list" = none) (ha : DE X W a ea) (hg : Gl X "list" := by rfl) (h1 : starEach [a] X.env = (false, eval a X.env) :: starEach [] X.env := by rfl) (h2 : (backTo pos (starEach [] X.env)).any (·.1) = false := by rfl) : DE X W (.Call (.Name "list" p0) [a] [] pos) (eCa pListOf (esCons ea esNil)) := de_callTy call_list_of cak_listof hg hm bt_list (da1 ha h1) (he := h1) (hpl := h2)
theorem c_tuple (hm : X.mg "tuple" = none) (ha : DE X W a ea) (hg : Gl X "tuple" := by rfl) (h1 : starEach [a] X.env = (false, eval a X.env) :: starEach [] X.env := by rfl) (h2 : (backTo pos (starEach [] X.env)).any (·.1) = false := by rfl) : DE X W (.Call (.Name "tuple" p0) [a] [] pos) (eCa pTupOf (esCons ea esNil)) := de_callTy call_tuple_of cak_tupof hg hm bt_tuple (da1 ha h1) (he := h1) (hpl := h2)
theorem c_sum (G : Gd X W k) (hm : X.mg "sum" = none) (ha : DE X W a ea) (hg : Gl X "sum" := by rfl) (h1 : starEach [a] X.env = (false, eval a X.env) :: starEach [] X.env := by rfl) (h2 : (backTo pos (starEach [] X.env)).any (·.1) = false := by rfl) : DE X W (.Call (.Name "sum" p0) [a] [] pos) (eCa pSum (esCons ea esNil)) := de_callB (cr_sum G.calm) cak_sum hg hm bt_sum (da1 ha h1) (he := h1) (hpl := h2)
theorem c_all (G : Gd X W k) (hm : X.mg "all" = none) (ha : DE X W a ea) (hg : Gl X "all" := by rfl) (h1 : starEach [a] X.env = (false, eval a X.env) :: starEach [] X.env := by rfl) (h2 : (backTo pos (starEach [] X.env)).any (·.1) = false := by rfl) : DE X W (.Call (.Name "all" p0) [a] [] pos) (eCa pAll (esCons ea esNil)) := de_callB (cr_all G.calm) cak_all hg hm bt_all (da1 ha h1) (he := h1) (hpl := h2)
theorem c_any (G : Gd X W k) (hm : X.mg "any" = none) (ha : DE X W a ea) (hg : Gl X "any" := by rfl) (h1 : starEach [a] X.env = (false, eval a X.env) :: starEach [] X.env := by rfl) (h2 : (backTo pos (starEach [] X.env)).any (·.1) = false := by rfl) : DE X W (.Call (.Name "any" p0) [a] [] pos) (eCa pAny (esCons ea esNil)) := de_callB (cr_any G.calm) cak_any hg hm bt_any (da1 ha h1) (he := h1) (hpl := h2)
theorem c_repr (G : Gd X W k) (hm : X.mg "repr" = none) (ha : DE X W a ea) (hg : Gl X "repr" := by rfl) (h1 : starEach [a] X.env = (false, eval a X.env) :: starEach [] X.env := by rfl) (h2 : (backTo pos (starEach [] X.env)).any (·.1) = false := by rfl) : DE X W (.Call (.Name "repr" p0) [a] [] pos) (eCa pRepr (esCons ea esNil)) := de_callB (call_repr_d G) cak_repr hg hm bt_repr (da1 ha h1) (he := h1) (hpl := h2)
theorem c_max (G : Gd X W k) (hm : X.mg "max" = none) (ha : DE X W a ea) (hb : DE X W b eb) (hg : Gl X "max" := by rfl) (h1 : starEach [a, b] X.env = (false, eval a X.env) :: starEach [b] X.env := by rfl) (h3 : starEach [b] X.env = (false, eval b X.env) :: starEach [] X.env := by rfl) (h2 : (backTo pos (starEach [b] X.env)).any (·.1) = false := by rfl) : DE X W (.Call (.Name "max" p0) [a, b] [] pos) (eCa pMax (esCons ea (esCons eb esNil))) := de_callB (call_max2 G.calm) cak_i2 hg hm bt_max (da2 ha hb h1 h3) (he := h1) (hpl := h2)
theorem c_min (G : Gd X W k) (hm : X.mg "min" = none) (ha : DE X W a ea) (hb : DE X W b eb) (hg : Gl X "min" := by rfl) (h1 : starEach [a, b] X.env = (false, eval a X.env) :: starEach [b] X.env := by rfl) (h3 : starEach [b] X.env = (false, eval b X.env) :: starEach [] X.env := by rfl) (h2 : (backTo pos (starEach [b] X.env)).any (·.1) = false := by rfl) : DE X W (.Call (.Name "min" p0) [a, b] [] pos) (eCa pMin (esCons ea (esCons eb esNil))) := de_callB (call_min2 G.calm) cak_i2 hg hm bt_min (da2 ha hb h1 h3) (he := h1) (hpl := h2)
end
/-- statements -/
theorem s_set {i : Nat} {x : Str} {pos' : Pos} (G : Gd X W k) (he : DE X W a ea) (hi : X.N[i]? = some x := by rfl) (hx : Loc X.env.scope x := by first | exact Or.inl rfl | exact Or.inr rfl) (hs : swapsWith a (some (.Name x pos')) pos.line X.env = pure false := by rfl) (hf : X.fn x = true ∨ X.env.scope.names.lookup x = some .local := by first | exact .inl rfl | exact .inr rfl) :
    DS X W (.Assign [.Name x pos'] a pos) (sSet i ea) := ds_set G.nd hi hx he hs hf
theorem s_new {i : Nat} {x : Str} {pos' : Pos} {en : Nw} (G : Gd X W k) (he : DN X W a en) (hi : X.N[i]? = some x := by rfl) (hx : Loc X.env.scope x := by first | exact Or.inl rfl | exact Or.inr rfl) (hs : swapsWith a (some (.Name x pos')) pos.line X.env = pure false := by rfl) (hf : X.fn x = true ∨ X.env.scope.names.lookup x = some .local := by first | exact .inl rfl | exact .inr rfl) :
    DS X W (.Assign [.Name x pos'] a pos) (sNew i en) := ds_new G.nd hi hx he hs hf
/-- a, b = a new list, e -/
@[simp] def sParN (i j : Nat) (n : Nw) (e : Ex) (σ : Sg) (S : Sto) : Option Flow := Sm.bnd (n σ S) fun ob S1 => Sm.bnd (e σ (S1 ++ [ob])) fun y S2 => some (.nx ((σ.set i (some (.r S1.length))).set j (some y)) S2)
theorem ds_parN {i j : Nat} {x y : Str} {en : Nw} {px py pt : Pos} {kt k2 pt2} (G : Gd X W k) (ha : DN X W a en) (hb : DE X W b eb) (hi : X.N[i]? = some x := by rfl) (hj : X.N[j]? = some y := by rfl) (hij : i ≠ j := by decide)
    (hx : X.env.scope.names.lookup x = some .local := by rfl) (hy : X.env.scope.names.lookup y = some .local := by rfl)
    (hw : swappedStores [.Tuple [.Name x px, .Name y py] kt pt] (.Tuple [a, b] k2 pt2) X.env = pure (some [x, y]) := by rfl)
    (hs : swapsWithSole [.Tuple [.Name x px, .Name y py] kt pt] (.Tuple [a, b] k2 pt2) pos.line X.env = pure false := by rfl)
    (h1 : starEach [a, b] X.env = (false, eval a X.env) :: starEach [b] X.env := by rfl) (h2 : starEach [b] X.env = (false, eval b X.env) :: starEach [] X.env := by rfl) :
    DS X W (.Assign [.Tuple [.Name x px, .Name y py] kt pt] (.Tuple [a, b] k2 pt2) pos) (sParN i j en eb) :=
  ps_imp (ps_par G.calm G.nd hi hj hij hx hy (pa_cons ha (pa_cons hb pa_nil h2) h1) hw hs) fun D σV H ⟨f, σ, S, r, hE, hS, hr, hf⟩ => by
    unfold tPar tCons
    refine TN.stm hE hS hr hf fun ob S1 p H1 h1 f1 s1 k1 e1 np => ?_
    dsimp only
    refine TX.stm e1 s1 h1 f1 fun v S2 u H2 h2 f2 s2 k2 e2 r2 => ?_
    cases h2
    have hl : f.o.length = S1.length := by
      have := s1.len
      simp [Ow.add] at this
      exact this
    have hp : SvR X.K (f.add [p]) H2 (.ref p) (.r S1.length) := ⟨p, by show (f.o ++ [p])[S1.length]? = some p; rw [← hl]; simp, rfl⟩
    exact ⟨_, _, rfl, ReS.now f2 s2 ((e2.set i hp).set j r2)⟩
end
end Z
set_option maxRecDepth 100000
set_option maxHeartbeats 1000000
namespace Z
open PySem PySem.Spec PyProof.Rows L2

/-! ## loops, by what holds between two turns -/
theorem forGo_inv {g : Tg} {body : Sm} (P : Nat → Sg → Sto → Prop) : ∀ (ds : List PyData) (k : Nat),
    (∀ (j : Nat) (d : PyData) (σ : Sg) (S : Sto), ds[j]? = some d → P (k + j) σ S → ∃ σ1, g d σ = some σ1 ∧ ∃ σ2 S2, body σ1 S = some (.nx σ2 S2) ∧ P (k + j + 1) σ2 S2) →
    ∀ (σ : Sg) (S : Sto), P k σ S → ∃ σ' S', forGo none g body ds σ S = some (.nx σ' S') ∧ P (k + ds.length) σ' S'
  | [], k, _, σ, S, h => ⟨σ, S, by simp [forGo, gdOk], h⟩
  | d :: ds, k, hs, σ, S, h => by
    obtain ⟨σ1, e1, σ2, S2, e2, h2⟩ := hs 0 d σ S rfl h
    obtain ⟨σ', S', e3, h3⟩ := forGo_inv P ds (k + 1) (fun j d' σ S hd hp => by
      have := hs (j + 1) d' σ S (by simpa using hd) (by rw [show k + (j + 1) = k + 1 + j by omega]; exact hp)
      rw [show k + (j + 1) + 1 = k + 1 + j + 1 by omega] at this
      exact this) σ2 S2 h2
    refine ⟨σ', S', ?_, by rw [List.length_cons, show k + (ds.length + 1) = k + 1 + ds.length by omega]; exact h3⟩
    simp [forGo, gdOk, e1, e2, e3]
theorem cmpGo_inv {g : Tg} {t : Tst} {e : Ex} {σ0 : Sg} (P : Nat → Sto → List PyData → Prop) : ∀ (ds : List PyData) (k : Nat) (acc : List PyData),
    (∀ (j : Nat) (d : PyData) (S : Sto) (ac : List PyData), ds[j]? = some d → P (k + j) S ac → ac.length = acc.length + j → ∃ σ1, g d σ0 = some σ1 ∧ ∃ S1, t σ1 S = some (.ok true S1) ∧ ∃ y S2, e σ1 S1 = some (.ok (.d y) S2) ∧ P (k + j + 1) S2 (ac ++ [y])) →
    acc.length + ds.length ≤ sizeLine → ∀ (S : Sto), P k S acc → ∃ S' out, cmpGo none g t e σ0 ds acc S = some (S', out) ∧ P (k + ds.length) S' out ∧ out.length = acc.length + ds.length
  | [], k, acc, _, _, S, h => ⟨S, acc, by simp [cmpGo, gdOk], h, by simp⟩
  | d :: ds, k, acc, hs, hz, S, h => by
    obtain ⟨σ1, e1, S1, e2, y, S2, e3, h2⟩ := hs 0 d S acc rfl h (by simp)
    have hl : (acc ++ [y]).length = acc.length + 1 := by simp
    obtain ⟨S', out, e4, h3, h4⟩ := cmpGo_inv P ds (k + 1) (acc ++ [y]) (fun j d' S ac hd hp hac => by
      have := hs (j + 1) d' S ac (by simpa using hd) (by rw [show k + (j + 1) = k + 1 + j by omega]; exact hp) (by rw [hac, hl]; omega)
      rw [show k + (j + 1) + 1 = k + 1 + j + 1 by omega] at this
      exact this) (by rw [hl]; simp at hz; omega) S2 h2
    refine ⟨S', out, ?_, by rw [List.length_cons, show k + (ds.length + 1) = k + 1 + ds.length by omega]; exact h3, by rw [h4, hl]; simp; omega⟩
    have hlt : acc.length < sizeLine := by simp at hz; omega
    simp [cmpGo, gdOk, e1, e2, e3, hlt, e4]
/-- a comprehension that changes nothing: each item by itself -/
theorem cmpGo_map {g : Tg} {e : Ex} {σ0 : Sg} {S : Sto} (h : PyData → PyData) : ∀ (ds acc : List PyData),
    (∀ d ∈ ds, ∃ σ1, g d σ0 = some σ1 ∧ e σ1 S = some (.ok (.d (h d)) S)) → acc.length + ds.length ≤ sizeLine → cmpGo none g tTrue e σ0 ds acc S = some (S, acc ++ ds.map h)
  | [], acc, _, _ => by simp [cmpGo, gdOk]
  | d :: ds, acc, hs, hz => by
    obtain ⟨σ1, e1, e2⟩ := hs d List.mem_cons_self
    have hlt : acc.length < sizeLine := by simp at hz; omega
    have ih := cmpGo_map h ds (acc ++ [h d]) (fun d' m => hs d' (List.mem_cons_of_mem _ m)) (by simp at hz ⊢; omega)
    simp [cmpGo, gdOk, e1, tTrue, e2, hlt, ih]
theorem upTo_len (lo : Int) (n : Nat) : (upTo lo n).length = n := by simp [upTo]
theorem upTo_get {lo : Int} {n i : Nat} {d : PyData} (h : (upTo lo n)[i]? = some d) : i < n ∧ d = .int (lo + (i : Int)) := by
  have hi : i < n := by
    have := (List.getElem?_eq_some_iff.mp h).1
    simpa [upTo] using this
  refine ⟨hi, ?_⟩
  unfold upTo at h
  rw [List.getElem?_map, List.getElem?_range hi] at h
  exact (Option.some.inj h).symm

/-! ## the great modulus of a stream -/
def T60 : Int := 10 ^ 60
def T720 : Int := T60 ^ 12
theorem pow_a (S : Sto) : pPow (.d (.int 10)) (.d (.int 60)) S = some (.d (.int T60)) := by
  have h : (0 : Int) ≤ 60 ∧ (60 : Int) ≤ 1000 ∧ -(10 ^ 60) ≤ (10 : Int) ∧ (10 : Int) ≤ 10 ^ 60 := by decide +kernel
  unfold pPow iop
  dsimp only
  rw [if_pos h]
  rfl
theorem pow_b (S : Sto) : pPow (.d (.int T60)) (.d (.int 12)) S = some (.d (.int T720)) := by
  have h : (0 : Int) ≤ 12 ∧ (12 : Int) ≤ 1000 ∧ -(10 ^ 60) ≤ T60 ∧ T60 ≤ 10 ^ 60 := by decide +kernel
  unfold pPow iop
  dsimp only
  rw [if_pos h]
  rfl
theorem T720_pos : 0 < T720 := by decide +kernel
def T18 : Int := 10 ^ 18
theorem pow_c (S : Sto) : pPow (.d (.int 10)) (.d (.int 18)) S = some (.d (.int T18)) := by
  have h : (0 : Int) ≤ 18 ∧ (18 : Int) ≤ 1000 ∧ -(10 ^ 60) ≤ (10 : Int) ∧ (10 : Int) ≤ 10 ^ 60 := by decide +kernel
  unfold pPow iop
  dsimp only
  rw [if_pos h]
  rfl
theorem pow_g {a b : Int} (S : Sto) (h : 0 ≤ b ∧ b ≤ 1000 ∧ -(10 ^ 60) ≤ a ∧ a ≤ 10 ^ 60) : pPow (.d (.int a)) (.d (.int b)) S = some (.d (.int (a ^ b.toNat))) := by
  unfold pPow iop
  dsimp only
  rw [if_pos h]
  rfl

/-! ## == of data -/
def tupI (ns : List Int) : PyData := .tuple (ns.map .int)
mutual
theorem eqv_self : ∀ d : PyData, d.hasDict = false → PyData.eqv d d = true
  | .none, _ => by simp [PyData.eqv]
  | .bool b, _ => by simp [PyData.eqv]
  | .int i, _ => by simp [PyData.eqv]
  | .str x, _ => by simp [PyData.eqv]
  | .list ds, h => by simp only [PyData.eqv]; exact eqv_selfs ds (by simpa [PyData.hasDict] using h)
  | .tuple ds, h => by simp only [PyData.eqv]; exact eqv_selfs ds (by simpa [PyData.hasDict] using h)
  | .dict _, h => by simp [PyData.hasDict] at h
theorem eqv_selfs : ∀ ds : List PyData, PyData.hasDictAll ds = false → PyData.eqvAll ds ds = true
  | [], _ => by simp [PyData.eqvAll]
  | d :: ds, h => by
    have h : d.hasDict = false ∧ PyData.hasDictAll ds = false := by simpa [PyData.hasDictAll] using h
    simp [PyData.eqvAll, eqv_self d h.1, eqv_selfs ds h.2]
end
theorem okD_int (i : Int) : okD (.int i) = true := by
  unfold okD SeqAt.shaped
  simp [PyData.canLay0, PyData.depth, PyData.hasDict]
theorem okD_bool (i : Bool) : okD (.bool i) = true := by
  unfold okD SeqAt.shaped
  simp [PyData.canLay0, PyData.depth, PyData.hasDict]
theorem okD_none : okD .none = true := by
  unfold okD SeqAt.shaped
  simp [PyData.canLay0, PyData.depth, PyData.hasDict]
theorem hasDict_ints (ns : List Int) : PyData.hasDictAll (ns.map .int) = false := by
  induction ns with
  | nil => simp [PyData.hasDictAll]
  | cons n ns ih => simp [PyData.hasDictAll, PyData.hasDict, ih]
end Z
set_option maxRecDepth 100000
set_option maxHeartbeats 1000000
namespace Z
open PySem PySem.Spec PyProof.Rows L2

/-! ## how long a repr is at most -/
mutual
/-- a bound of the signs of a repr -/
def szR : PyData → Nat
  | .none => 4
  | .bool _ => 5
  | .int i => i.natAbs.log2 + 3
  | .str x => (reprText x).length
  | .list xs => szRs xs + 2
  | .tuple xs => szRs xs + 3
  | .dict _ => 0
def szRs : List PyData → Nat
  | [] => 0
  | x :: xs => szR x + 2 + szRs xs
end
theorem strLen_of (s : String) : (Str.ofString s).length = s.length := by
  rw [Str.ofString_eq_toList]
  show ((s.toList.map Char.toNat).toArray).size = _
  simp [String.length_toList]
theorem nat_repr_len (n : Nat) : n.repr.length ≤ n.log2 + 1 := by
  rw [Nat.length_repr_le_iff (by omega)]
  have h1 := Nat.lt_log2_self (n := n)
  have h2 : (2 : Nat) ^ (n.log2 + 1) ≤ 10 ^ (n.log2 + 1) := Nat.pow_le_pow_left (by omega) _
  omega
theorem int_str_len (i : Int) : (Str.ofString (toString i)).length ≤ i.natAbs.log2 + 3 := by
  rw [strLen_of]
  cases i with
  | ofNat m =>
    have := nat_repr_len m
    show (m.repr).length ≤ m.log2 + 3
    omega
  | negSucc m =>
    have := nat_repr_len (m + 1)
    show ("-" ++ (m + 1).repr).length ≤ (m + 1).log2 + 3
    rw [String.length_append]
    have e : ("-" : String).length = 1 := rfl
    omega
theorem textFrom_len0 (ts : List Str) : (listText ts).length ≤ piled ts + 2 := by
  cases ts with
  | nil => decide
  | cons t r =>
    have h := textFrom_length_pos r 1 (("[" : Str) ++ ("" : String) ++ t) (by omega)
    have e : (("[" : Str) ++ ("" : String) ++ t).length = 1 + t.length := by
      rw [strLen_append, strLen_append]; rfl
    show ((textFrom 1 (("[" : Str) ++ ("" : String) ++ t) r) ++ ("]" : Str)).length ≤ _
    rw [strLen_append, h, e, piled_cons]
    have e3 : (("]" : String) : Str).length = 1 := rfl
    omega
theorem tupleText_len0 (ts : List Str) : (tupleText ts).length ≤ piled ts + 3 := by
  cases ts with
  | nil => decide
  | cons t r =>
    have h := join_length_add (t :: r) (by simp)
    unfold tupleText
    rw [strLen_append, strLen_append]
    have e1 : (("(" : String) : Str).length = 1 := rfl
    have e2 : ((if (t :: r).length == 1 then ",)" else ")" : String) : Str).length ≤ 2 := by
      split
      · exact Nat.le_refl _
      · decide
    omega
mutual
theorem shown_le : ∀ d : PyData, d.hasDict = false → d.shown.length ≤ szR d
  | .none, _ => by simp only [PyData.shown, szR]; decide
  | .bool b, _ => by cases b <;> (simp only [PyData.shown, szR]; decide)
  | .int i, _ => by simp only [PyData.shown, szR]; exact int_str_len i
  | .str x, _ => by simp only [PyData.shown, szR]; exact Nat.le_refl _
  | .list xs, h => by
    have := shown_les xs (by simpa [PyData.hasDict] using h)
    have h2 := textFrom_len0 (PyData.shownAll xs)
    simp only [PyData.shown, szR]
    omega
  | .tuple xs, h => by
    have := shown_les xs (by simpa [PyData.hasDict] using h)
    have h2 := tupleText_len0 (PyData.shownAll xs)
    simp only [PyData.shown, szR]
    omega
  | .dict _, h => by simp [PyData.hasDict] at h
theorem shown_les : ∀ ds : List PyData, PyData.hasDictAll ds = false → piled (PyData.shownAll ds) ≤ szRs ds
  | [], _ => by simp [PyData.shownAll, szRs, piled_nil]
  | d :: ds, h => by
    have h : d.hasDict = false ∧ PyData.hasDictAll ds = false := by simpa [PyData.hasDictAll] using h
    have h1 := shown_le d h.1
    have h2 := shown_les ds h.2
    simp only [PyData.shownAll, szRs, piled_cons]
    omega
end
theorem okR_of {d : PyData} (h1 : d.showable = true) (h2 : d.depth ≤ 100) (h3 : d.hasDict = false) (h4 : szR d ≤ sizeLine) : okR d :=
  ⟨h1, h2, Nat.le_trans (shown_le d h3) h4, h3⟩
/-! ### tuples of small numbers -/
def smallN (ns : List Int) : Prop := ∀ n ∈ ns, -18446744073709551616 < n ∧ n < 18446744073709551616
theorem log_small {n : Int} (h : -18446744073709551616 < n ∧ n < 18446744073709551616) : n.natAbs.log2 ≤ 63 := by
  by_cases h0 : n.natAbs = 0
  · rw [h0]; decide
  · have h1 : n.natAbs < 2 ^ 64 := by omega
    have := (Nat.log2_lt h0).mpr h1
    omega
theorem ints_sz {ns : List Int} (h : smallN ns) : szRs (ns.map .int) ≤ 70 * ns.length := by
  induction ns with
  | nil => simp [szRs]
  | cons n ns ih =>
    have h1 := log_small (h n List.mem_cons_self)
    have h2 := ih fun m hm => h m (List.mem_cons_of_mem _ hm)
    simp only [List.map_cons, szRs, szR, List.length_cons]
    omega
theorem ints_show {ns : List Int} (h : smallN ns) : PyData.showableAll (ns.map .int) = true := by
  induction ns with
  | nil => simp [PyData.showableAll]
  | cons n ns ih =>
    have h1 := log_small (h n List.mem_cons_self)
    have h2 := ih fun m hm => h m (List.mem_cons_of_mem _ hm)
    simp only [List.map_cons, PyData.showableAll, PyData.showable, h2, Bool.and_true, decide_eq_true_eq]
    omega
theorem ints_depth (ns : List Int) : PyData.depthAll (ns.map .int) = 0 := by
  induction ns with
  | nil => simp [PyData.depthAll]
  | cons n ns ih => simp [PyData.depthAll, PyData.depth, ih]
theorem ints_lay (ns : List Int) : PyData.canLayAll0 (ns.map .int) = true := by
  induction ns with
  | nil => simp [PyData.canLayAll0]
  | cons n ns ih => simp [PyData.canLayAll0, PyData.canLay0, ih]
theorem okD_tupI (ns : List Int) : okD (tupI ns) = true := by
  unfold okD SeqAt.shaped tupI
  simp [PyData.canLay0, PyData.depth, PyData.hasDict, ints_depth, ints_lay, hasDict_ints]
theorem okD_lstI (ns : List Int) : okD (.list (ns.map .int)) = true := by
  unfold okD SeqAt.shaped
  simp [PyData.canLay0, PyData.depth, PyData.hasDict, ints_depth, ints_lay, hasDict_ints]
/-- what may be shown: no dict, not deep, not long -/
structure Sh (d : PyData) (dep sz : Nat) : Prop where
  s : d.showable = true
  p : d.depth ≤ dep
  n : d.hasDict = false
  z : szR d ≤ sz
structure Shs (ds : List PyData) (dep sz : Nat) : Prop where
  s : PyData.showableAll ds = true
  p : PyData.depthAll ds ≤ dep
  n : PyData.hasDictAll ds = false
  z : szRs ds ≤ sz
theorem Sh.ok {d : PyData} {dep sz : Nat} (h : Sh d dep sz) (h1 : dep ≤ 100 := by omega) (h2 : sz ≤ sizeLine := by decide) : okR d :=
  okR_of h.s (by have := h.p; omega) h.n (by have := h.z; omega)
theorem Shs.nil (dep sz : Nat) : Shs [] dep sz := ⟨by simp [PyData.showableAll], by simp [PyData.depthAll], by simp [PyData.hasDictAll], by simp [szRs]⟩
theorem Shs.cons {d : PyData} {ds : List PyData} {dep sz sz2 : Nat} (h : Sh d dep sz) (h2 : Shs ds dep sz2) : Shs (d :: ds) dep (sz + 2 + sz2) :=
  ⟨by simp [PyData.showableAll, h.s, h2.s], by have := h.p; have := h2.p; simp only [PyData.depthAll]; omega, by simp [PyData.hasDictAll, h.n, h2.n], by have := h.z; have := h2.z; simp only [szRs]; omega⟩
theorem Shs.list {ds : List PyData} {dep sz : Nat} (h : Shs ds dep sz) : Sh (.list ds) (dep + 1) (sz + 2) :=
  ⟨by simp [PyData.showable, h.s], by have := h.p; simp only [PyData.depth]; omega, by simp [PyData.hasDict, h.n], by have := h.z; simp only [szR]; omega⟩
theorem Shs.tup {ds : List PyData} {dep sz : Nat} (h : Shs ds dep sz) : Sh (.tuple ds) (dep + 1) (sz + 3) :=
  ⟨by simp [PyData.showable, h.s], by have := h.p; simp only [PyData.depth]; omega, by simp [PyData.hasDict, h.n], by have := h.z; simp only [szR]; omega⟩
theorem Sh.int {n : Int} (h : -18446744073709551616 < n ∧ n < 18446744073709551616) {dep : Nat} : Sh (.int n) dep 70 :=
  ⟨by have := log_small h; simp only [PyData.showable, decide_eq_true_eq]; omega, by simp [PyData.depth], by simp [PyData.hasDict], by have := log_small h; simp only [szR]; omega⟩
theorem Sh.tupI {ns : List Int} (h : smallN ns) {m : Nat} (hm : ns.length ≤ m) : Sh (tupI ns) 1 (70 * m + 3) :=
  ⟨by simp only [Z.tupI, PyData.showable]; exact ints_show h, by simp [Z.tupI, PyData.depth, ints_depth], by simp [Z.tupI, PyData.hasDict, hasDict_ints], by have := ints_sz h; simp only [Z.tupI, szR]; omega⟩
end Z
namespace Z
open PySem
@[simp] theorem sz_le {n : Nat} (h : n ≤ 1000) : n ≤ sizeLine := Nat.le_trans h (by decide)
@[simp] theorem sz_lt {n : Nat} (h : n < 1000) : n < sizeLine := Nat.lt_of_lt_of_le h (by decide)
end Z
namespace Z
open PySem
theorem seq_nx {a b : Sm} {σ σ' : Sg} {S S' : Sto} (h : a σ S = some (.nx σ' S')) : sSeq a b σ S = b σ' S' := by
  unfold sSeq
  rw [h]
end Z
namespace Z
open PySem
theorem eBin_eq {p : SV → SV → Sto → Option SV} {a b : Ex} {σ : Sg} {S S1 S2 : Sto} {x y z : SV} (h1 : a σ S = some (.ok x S1)) (h2 : b σ S1 = some (.ok y S2)) (h3 : p x y S2 = some z) : eBin p a b σ S = some (.ok z S2) := by
  unfold eBin
  rw [h1, bnd_ok, h2, bnd_ok, h3]
  rfl
end Z
set_option maxRecDepth 100000
namespace T
open PySem PySem.Spec PyProof.Rows L2 Z
def topS (i : Nat) : Stmt := PySem.Challenge.pw_wordlaws_k02_sums_multiples_and_dot_prod.main.body.getD i (.Pass ⟨0, 0, 0, 0⟩)
section
variable {P : Program} {w : World} {K : PySem.W.Frag} {mg : Str → Option Value} {base : Heap}
/-! ### fits_bounds -/
abbrev st_fits_bounds : Stmt := topS 12
abbrev n_fits_bounds : List Str := [(Str.ofString "value"), (Str.ofString "low"), (Str.ofString "high")]
theorem sc_fits_bounds : FnScope n_fits_bounds [(Str.ofString "value"), (Str.ofString "low"), (Str.ofString "high")] (defScope st_fits_bounds) := ⟨rfl, rfl, rfl, by decide +kernel, rfl, by decide +kernel, by decide +kernel⟩
noncomputable def m_fits_bounds : Sm :=
    (sRet (eAnd (eIsi "int" (eVar 0)) (eAnd (eNot (eIsi "bool" (eVar 0))) (eChain pLe pLe (eVar 1) (eVar 0) (eVar 2)))))
noncomputable def f_fits_bounds : Fn := fun args S => if args.length = 3 then fnRun 0 m_fits_bounds args S else none
theorem ok_fits_bounds (nb : NB mg) {f : Addr} {fd : FuncData} (F : Fun K (Str.ofString "fits_bounds") (Str.ofString "fits_bounds") st_fits_bounds f fd) (hm : mg (Str.ofString "fits_bounds") = some (.ref f)) : FnG P w K mg base 1 (Str.ofString "fits_bounds") f_fits_bounds :=
  fn_def (m := m_fits_bounds) F hm sc_fits_bounds rfl (fun _ _ _ _ _ _ us hl => match us, hl with | [_, _, _], _ => rfl) fun cdv A outer s H E g =>
    (db_one (ds_ret (de_and (de_isi (n := "int") (by decide) nb.isinstance nb.int bt_int (de_var 0)) (de_and (de_not (de_isi (n := "bool") (by decide) nb.isinstance nb.bool bt_bool (de_var 0))) (de_one (de_chLeLe (de_var 1) (de_var 0) (de_var 2)))))))
/-! ### is_width -/
abbrev st_is_width : Stmt := topS 8
abbrev n_is_width : List Str := [(Str.ofString "value")]
theorem sc_is_width : FnScope n_is_width [(Str.ofString "value")] (defScope st_is_width) := ⟨rfl, rfl, rfl, by decide +kernel, rfl, by decide +kernel, by decide +kernel⟩
noncomputable def m_is_width : Sm :=
    (sRet (eCall f_fits_bounds (esCons (eVar 0) (esCons (eLit (.int 1)) (esCons (eLit (.int 16)) esNil)))))
noncomputable def f_is_width : Fn := fun args S => if args.length = 1 then fnRun 0 m_is_width args S else none
theorem ok_is_width (nb : NB mg) (h_fits_bounds : FnG P w K mg base 1 (Str.ofString "fits_bounds") f_fits_bounds) (c_MAX_WIDTH : Σ' t, mg (Str.ofString "MAX_WIDTH") = some (.int 16 t)) {f : Addr} {fd : FuncData} (F : Fun K (Str.ofString "is_width") (Str.ofString "is_width") st_is_width f fd) (hm : mg (Str.ofString "is_width") = some (.ref f)) : FnG P w K mg base 2 (Str.ofString "is_width") f_is_width :=
  fn_def (m := m_is_width) F hm sc_is_width rfl (fun _ _ _ _ _ _ us hl => match us, hl with | [_], _ => rfl) fun cdv A outer s H E g =>
    (db_one (ds_ret (de_call g (h_fits_bounds.mono (by decide)) (da_cons (de_var 0) (da_cons de_int (da_cons (de_globI c_MAX_WIDTH.2) da_nil))))))
/-! ### need_width -/
abbrev st_need_width : Stmt := topS 17
abbrev n_need_width : List Str := [(Str.ofString "value")]
theorem sc_need_width : FnScope n_need_width [(Str.ofString "value")] (defScope st_need_width) := ⟨rfl, rfl, rfl, by decide +kernel, rfl, by decide +kernel, by decide +kernel⟩
noncomputable def m_need_width : Sm :=
    (sIf (tNt (tVal (eCall f_is_width (esCons (eVar 0) esNil)))) sNo sNil)
noncomputable def f_need_width : Fn := fun args S => if args.length = 1 then fnRun 0 m_need_width args S else none
theorem ok_need_width (nb : NB mg) (h_is_width : FnG P w K mg base 2 (Str.ofString "is_width") f_is_width) {f : Addr} {fd : FuncData} (F : Fun K (Str.ofString "need_width") (Str.ofString "need_width") st_need_width f fd) (hm : mg (Str.ofString "need_width") = some (.ref f)) : FnG P w K mg base 3 (Str.ofString "need_width") f_need_width :=
  fn_def (m := m_need_width) F hm sc_need_width rfl (fun _ _ _ _ _ _ us hl => match us, hl with | [_], _ => rfl) fun cdv A outer s H E g =>
    (db_one (ds_if (dt_not (dt_val (de_call g (h_is_width.mono (by decide)) (da_cons (de_var 0) da_nil)))) (db_one ds_no) db_nil))
/-! ### fits_size -/
abbrev st_fits_size : Stmt := topS 13
abbrev n_fits_size : List Str := [(Str.ofString "value")]
theorem sc_fits_size : FnScope n_fits_size [(Str.ofString "value")] (defScope st_fits_size) := ⟨rfl, rfl, rfl, by decide +kernel, rfl, by decide +kernel, by decide +kernel⟩
noncomputable def m_fits_size : Sm :=
    (sRet (eCall f_fits_bounds (esCons (eVar 0) (esCons (eLit (.int 1)) (esCons (eLit (.int 40)) esNil)))))
noncomputable def f_fits_size : Fn := fun args S => if args.length = 1 then fnRun 0 m_fits_size args S else none
theorem ok_fits_size (nb : NB mg) (h_fits_bounds : FnG P w K mg base 1 (Str.ofString "fits_bounds") f_fits_bounds) (c_MAX_SIZE : Σ' t, mg (Str.ofString "MAX_SIZE") = some (.int 40 t)) {f : Addr} {fd : FuncData} (F : Fun K (Str.ofString "fits_size") (Str.ofString "fits_size") st_fits_size f fd) (hm : mg (Str.ofString "fits_size") = some (.ref f)) : FnG P w K mg base 2 (Str.ofString "fits_size") f_fits_size :=
  fn_def (m := m_fits_size) F hm sc_fits_size rfl (fun _ _ _ _ _ _ us hl => match us, hl with | [_], _ => rfl) fun cdv A outer s H E g =>
    (db_one (ds_ret (de_call g (h_fits_bounds.mono (by decide)) (da_cons (de_var 0) (da_cons de_int (da_cons (de_globI c_MAX_SIZE.2) da_nil))))))
/-! ### need_size -/
abbrev st_need_size : Stmt := topS 18
abbrev n_need_size : List Str := [(Str.ofString "value")]
theorem sc_need_size : FnScope n_need_size [(Str.ofString "value")] (defScope st_need_size) := ⟨rfl, rfl, rfl, by decide +kernel, rfl, by decide +kernel, by decide +kernel⟩
noncomputable def m_need_size : Sm :=
    (sIf (tNt (tVal (eCall f_fits_size (esCons (eVar 0) esNil)))) sNo sNil)
noncomputable def f_need_size : Fn := fun args S => if args.length = 1 then fnRun 0 m_need_size args S else none
theorem ok_need_size (nb : NB mg) (h_fits_size : FnG P w K mg base 2 (Str.ofString "fits_size") f_fits_size) {f : Addr} {fd : FuncData} (F : Fun K (Str.ofString "need_size") (Str.ofString "need_size") st_need_size f fd) (hm : mg (Str.ofString "need_size") = some (.ref f)) : FnG P w K mg base 3 (Str.ofString "need_size") f_need_size :=
  fn_def (m := m_need_size) F hm sc_need_size rfl (fun _ _ _ _ _ _ us hl => match us, hl with | [_], _ => rfl) fun cdv A outer s H E g =>
    (db_one (ds_if (dt_not (dt_val (de_call g (h_fits_size.mono (by decide)) (da_cons (de_var 0) da_nil)))) (db_one ds_no) db_nil))
/-! ### fits_word -/
abbrev st_fits_word : Stmt := topS 14
abbrev n_fits_word : List Str := [(Str.ofString "width"), (Str.ofString "value")]
theorem sc_fits_word : FnScope n_fits_word [(Str.ofString "width"), (Str.ofString "value")] (defScope st_fits_word) := ⟨rfl, rfl, rfl, by decide +kernel, rfl, by decide +kernel, by decide +kernel⟩
noncomputable def m_fits_word : Sm :=
    (sRet (eCall f_fits_bounds (esCons (eVar 1) (esCons (eLit (.int 0)) (esCons (eBin pSub (eBin pShl (eLit (.int 1)) (eVar 0)) (eLit (.int 1))) esNil)))))
noncomputable def f_fits_word : Fn := fun args S => if args.length = 2 then fnRun 0 m_fits_word args S else none
theorem ok_fits_word (nb : NB mg) (h_fits_bounds : FnG P w K mg base 1 (Str.ofString "fits_bounds") f_fits_bounds) {f : Addr} {fd : FuncData} (F : Fun K (Str.ofString "fits_word") (Str.ofString "fits_word") st_fits_word f fd) (hm : mg (Str.ofString "fits_word") = some (.ref f)) : FnG P w K mg base 2 (Str.ofString "fits_word") f_fits_word :=
  fn_def (m := m_fits_word) F hm sc_fits_word rfl (fun _ _ _ _ _ _ us hl => match us, hl with | [_, _], _ => rfl) fun cdv A outer s H E g =>
    (db_one (ds_ret (de_call g (h_fits_bounds.mono (by decide)) (da_cons (de_var 1) (da_cons de_int (da_cons (de_sub (de_shl de_int (de_var 0)) de_int) da_nil))))))
/-! ### fits_words -/
abbrev st_fits_words : Stmt := topS 15
abbrev n_fits_words : List Str := [(Str.ofString "width"), (Str.ofString "count"), (Str.ofString "value"), (Str.ofString "entry")]
theorem sc_fits_words : FnScope n_fits_words [(Str.ofString "width"), (Str.ofString "count"), (Str.ofString "value")] (defScope st_fits_words) := ⟨rfl, rfl, rfl, by decide +kernel, rfl, by decide +kernel, by decide +kernel⟩
noncomputable def m_fits_words : Sm :=
    (sRet (eAnd (eIsi "tuple" (eVar 2)) (eAnd (eBin pEq (eCa pLen (esCons (eVar 2) esNil)) (eVar 1)) (eCa pAll (esCons (eComp (wSeq (eVar 2)) (gVar 3) tTrue (eCall f_fits_word (esCons (eVar 0) (esCons (eVar 3) esNil))) [3]) esNil)))))
noncomputable def f_fits_words : Fn := fun args S => if args.length = 3 then fnRun 1 m_fits_words args S else none
theorem ok_fits_words (nb : NB mg) (h_fits_word : FnG P w K mg base 2 (Str.ofString "fits_word") f_fits_word) {f : Addr} {fd : FuncData} (F : Fun K (Str.ofString "fits_words") (Str.ofString "fits_words") st_fits_words f fd) (hm : mg (Str.ofString "fits_words") = some (.ref f)) : FnG P w K mg base 3 (Str.ofString "fits_words") f_fits_words :=
  fn_def (m := m_fits_words) F hm sc_fits_words rfl (fun _ _ _ _ _ _ us hl => match us, hl with | [_, _, _], _ => rfl) fun cdv A outer s H E g =>
    (db_one (ds_ret (de_and (de_isi (n := "tuple") (by decide) nb.isinstance nb.tuple bt_tuple (de_var 2)) (de_and (de_eq g (c_len nb.len (de_var 2)) (de_var 1)) (de_one (c_all g nb.all (de_comp g.calm g.nd (di_seq (de_var 2)) (blkOk_by (own := [((Str.ofString "entry"), 3)]) (N := n_fits_words) (sc := defScope st_fits_words) (by decide +kernel)) (by decide) (fun s H C cl fp => (dg_var (g.blk s H _ _ fp).nd)) (fun s H C cl fp => dts_nil) (fun s H C cl fp => (de_call (g.blk s H _ _ fp) (h_fits_word.mono (by decide)) (da_cons (de_var 0) (da_cons (de_var 3) da_nil)))))))))))
/-! ### fits_vector -/
abbrev st_fits_vector : Stmt := topS 16
abbrev n_fits_vector : List Str := [(Str.ofString "width"), (Str.ofString "size"), (Str.ofString "value")]
theorem sc_fits_vector : FnScope n_fits_vector [(Str.ofString "width"), (Str.ofString "size"), (Str.ofString "value")] (defScope st_fits_vector) := ⟨rfl, rfl, rfl, by decide +kernel, rfl, by decide +kernel, by decide +kernel⟩
noncomputable def m_fits_vector : Sm :=
    (sRet (eCall f_fits_words (esCons (eVar 0) (esCons (eVar 1) (esCons (eVar 2) esNil)))))
noncomputable def f_fits_vector : Fn := fun args S => if args.length = 3 then fnRun 0 m_fits_vector args S else none
theorem ok_fits_vector (nb : NB mg) (h_fits_words : FnG P w K mg base 3 (Str.ofString "fits_words") f_fits_words) {f : Addr} {fd : FuncData} (F : Fun K (Str.ofString "fits_vector") (Str.ofString "fits_vector") st_fits_vector f fd) (hm : mg (Str.ofString "fits_vector") = some (.ref f)) : FnG P w K mg base 4 (Str.ofString "fits_vector") f_fits_vector :=
  fn_def (m := m_fits_vector) F hm sc_fits_vector rfl (fun _ _ _ _ _ _ us hl => match us, hl with | [_, _, _], _ => rfl) fun cdv A outer s H E g =>
    (db_one (ds_ret (de_call g (h_fits_words.mono (by decide)) (da_cons (de_var 0) (da_cons (de_var 1) (da_cons (de_var 2) da_nil))))))
/-! ### need_vector -/
abbrev st_need_vector : Stmt := topS 20
abbrev n_need_vector : List Str := [(Str.ofString "width"), (Str.ofString "size"), (Str.ofString "value")]
theorem sc_need_vector : FnScope n_need_vector [(Str.ofString "width"), (Str.ofString "size"), (Str.ofString "value")] (defScope st_need_vector) := ⟨rfl, rfl, rfl, by decide +kernel, rfl, by decide +kernel, by decide +kernel⟩
noncomputable def m_need_vector : Sm :=
    (sIf (tNt (tVal (eCall f_fits_vector (esCons (eVar 0) (esCons (eVar 1) (esCons (eVar 2) esNil)))))) sNo sNil)
noncomputable def f_need_vector : Fn := fun args S => if args.length = 3 then fnRun 0 m_need_vector args S else none
theorem ok_need_vector (nb : NB mg) (h_fits_vector : FnG P w K mg base 4 (Str.ofString "fits_vector") f_fits_vector) {f : Addr} {fd : FuncData} (F : Fun K (Str.ofString "need_vector") (Str.ofString "need_vector") st_need_vector f fd) (hm : mg (Str.ofString "need_vector") = some (.ref f)) : FnG P w K mg base 5 (Str.ofString "need_vector") f_need_vector :=
  fn_def (m := m_need_vector) F hm sc_need_vector rfl (fun _ _ _ _ _ _ us hl => match us, hl with | [_, _, _], _ => rfl) fun cdv A outer s H E g =>
    (db_one (ds_if (dt_not (dt_val (de_call g (h_fits_vector.mono (by decide)) (da_cons (de_var 0) (da_cons (de_var 1) (da_cons (de_var 2) da_nil)))))) (db_one ds_no) db_nil))
/-! ### need_vectors -/
abbrev st_need_vectors : Stmt := topS 22
abbrev n_need_vectors : List Str := [(Str.ofString "width"), (Str.ofString "size"), (Str.ofString "value"), (Str.ofString "vector")]
theorem sc_need_vectors : FnScope n_need_vectors [(Str.ofString "width"), (Str.ofString "size"), (Str.ofString "value")] (defScope st_need_vectors) := ⟨rfl, rfl, rfl, by decide +kernel, rfl, by decide +kernel, by decide +kernel⟩
noncomputable def m_need_vectors : Sm :=
    (sSeq (sIf (tNt (tVal (eIsi "tuple" (eVar 2)))) sNo sNil)
    (sFor (wSeq (eVar 2)) (gVar 3) (sDo (eCall f_need_vector (esCons (eVar 0) (esCons (eVar 1) (esCons (eVar 3) esNil)))))))
noncomputable def f_need_vectors : Fn := fun args S => if args.length = 3 then fnRun 1 m_need_vectors args S else none
theorem ok_need_vectors (nb : NB mg) (h_need_vector : FnG P w K mg base 5 (Str.ofString "need_vector") f_need_vector) {f : Addr} {fd : FuncData} (F : Fun K (Str.ofString "need_vectors") (Str.ofString "need_vectors") st_need_vectors f fd) (hm : mg (Str.ofString "need_vectors") = some (.ref f)) : FnG P w K mg base 6 (Str.ofString "need_vectors") f_need_vectors :=
  fn_def (m := m_need_vectors) F hm sc_need_vectors rfl (fun _ _ _ _ _ _ us hl => match us, hl with | [_, _, _], _ => rfl) fun cdv A outer s H E g =>
    (db_cons (ds_if (dt_not (dt_val (de_isi (n := "tuple") (by decide) nb.isinstance nb.tuple bt_tuple (de_var 2)))) (db_one ds_no) db_nil)
    (db_one (ds_for g.po g.calm (di_seq (de_var 2)) (dg_var g.nd) (db_one (ds_do (de_call g (h_need_vector.mono (by decide)) (da_cons (de_var 0) (da_cons (de_var 1) (da_cons (de_var 3) da_nil)))))))))
/-! ### added -/
abbrev st_added : Stmt := topS 23
abbrev n_added : List Str := [(Str.ofString "width"), (Str.ofString "first"), (Str.ofString "second"), (Str.ofString "mask"), (Str.ofString "x"), (Str.ofString "y")]
theorem sc_added : FnScope n_added [(Str.ofString "width"), (Str.ofString "first"), (Str.ofString "second")] (defScope st_added) := ⟨rfl, rfl, rfl, by decide +kernel, rfl, by decide +kernel, by decide +kernel⟩
noncomputable def m_added : Sm :=
    (sSeq (sSet 3 (eBin pSub (eBin pShl (eLit (.int 1)) (eVar 0)) (eLit (.int 1))))
    (sRet (eCa pTupOf (esCons (eComp (wZip (eVar 1) (eVar 2)) (gPair (gVar 4) (gVar 5)) tTrue (eBin pAnd (eBin pPlus (eVar 4) (eVar 5)) (eVar 3)) [4, 5]) esNil))))
noncomputable def f_added : Fn := fun args S => if args.length = 3 then fnRun 3 m_added args S else none
theorem ok_added (nb : NB mg) {f : Addr} {fd : FuncData} (F : Fun K (Str.ofString "added") (Str.ofString "added") st_added f fd) (hm : mg (Str.ofString "added") = some (.ref f)) : FnG P w K mg base 1 (Str.ofString "added") f_added :=
  fn_def (m := m_added) F hm sc_added rfl (fun _ _ _ _ _ _ us hl => match us, hl with | [_, _, _], _ => rfl) fun cdv A outer s H E g =>
    (db_cons (s_set g (de_sub (de_shl de_int (de_var 0)) de_int))
    (db_one (ds_ret (c_tuple nb.tuple (de_comp g.calm g.nd (di_zip nb.zip (de_var 1) (de_var 2)) (blkOk_by (own := [((Str.ofString "x"), 4), ((Str.ofString "y"), 5)]) (N := n_added) (sc := defScope st_added) (by decide +kernel)) (by decide) (fun s H C cl fp => (dg_pair (g.blk s H _ _ fp).calm (dg_var (g.blk s H _ _ fp).nd) (dg_var (g.blk s H _ _ fp).nd))) (fun s H C cl fp => dts_nil) (fun s H C cl fp => (de_and_ (de_plus (de_var 4) (de_var 5)) (de_var 3))))))))
/-! ### vector_sum -/
abbrev st_vector_sum : Stmt := topS 9
abbrev n_vector_sum : List Str := [(Str.ofString "width"), (Str.ofString "size"), (Str.ofString "vectors"), (Str.ofString "total"), (Str.ofString "vector")]
theorem sc_vector_sum : FnScope n_vector_sum ([(Str.ofString "width"), (Str.ofString "size")] ++ [(Str.ofString "vectors")]) (defScope st_vector_sum) := ⟨rfl, rfl, rfl, by decide +kernel, rfl, by decide +kernel, by decide +kernel⟩
noncomputable def m_vector_sum : Sm :=
    (sSeq (sDo (eCall f_need_width (esCons (eVar 0) esNil)))
    (sSeq (sDo (eCall f_need_size (esCons (eVar 1) esNil)))
    (sSeq (sDo (eCall f_need_vectors (esCons (eVar 0) (esCons (eVar 1) (esCons (eVar 2) esNil)))))
    (sSeq (sSet 3 (eBin pTimes (eCa dispT (esCons (eLit (.int 0)) esNil)) (eVar 1)))
    (sSeq (sFor (wSeq (eVar 2)) (gVar 4) (sSet 3 (eCall f_added (esCons (eVar 0) (esCons (eVar 3) (esCons (eVar 4) esNil))))))
    (sRet (eVar 3)))))))
noncomputable def f_vector_sum : Fn := fun args S => if 2 ≤ args.length then (dats (args.drop 2)).bind fun ds => if ds.length ≤ sizeLine then fnRun 2 m_vector_sum (args.take 2 ++ [.d (.tuple ds)]) S else none else none
theorem ok_vector_sum (nb : NB mg) (h_need_width : FnG P w K mg base 3 (Str.ofString "need_width") f_need_width) (h_need_size : FnG P w K mg base 3 (Str.ofString "need_size") f_need_size) (h_need_vectors : FnG P w K mg base 6 (Str.ofString "need_vectors") f_need_vectors) (h_added : FnG P w K mg base 1 (Str.ofString "added") f_added) {f : Addr} {fd : FuncData} (F : Fun K (Str.ofString "vector_sum") (Str.ofString "vector_sum") st_vector_sum f fd) (hm : mg (Str.ofString "vector_sum") = some (.ref f)) : FnG P w K mg base 7 (Str.ofString "vector_sum") f_vector_sum :=
  fn_star (m := m_vector_sum) F hm sc_vector_sum rfl (fun _ _ _ _ _ _ us rest hl => match us, rest, hl with | [_, _], [], _ => rfl | [_, _], _ :: _, _ => rfl) fun cdv A outer s H E g =>
    (db_cons (ds_do (de_call g (h_need_width.mono (by decide)) (da_cons (de_var 0) da_nil)))
    (db_cons (ds_do (de_call g (h_need_size.mono (by decide)) (da_cons (de_var 1) da_nil)))
    (db_cons (ds_do (de_call g (h_need_vectors.mono (by decide)) (da_cons (de_var 0) (da_cons (de_var 1) (da_cons (de_var 2) da_nil)))))
    (db_cons (s_set g (de_times (de_tup (da_cons de_int da_nil)) (de_var 1)))
    (db_cons (ds_for g.po g.calm (di_seq (de_var 2)) (dg_var g.nd) (db_one (s_set g (de_call g (h_added.mono (by decide)) (da_cons (de_var 0) (da_cons (de_var 3) (da_cons (de_var 4) da_nil)))))))
    (db_one (ds_ret (de_var 3))))))))
/-! ### need_any_vector -/
abbrev st_need_any_vector : Stmt := topS 21
abbrev n_need_any_vector : List Str := [(Str.ofString "width"), (Str.ofString "value")]
theorem sc_need_any_vector : FnScope n_need_any_vector [(Str.ofString "width"), (Str.ofString "value")] (defScope st_need_any_vector) := ⟨rfl, rfl, rfl, by decide +kernel, rfl, by decide +kernel, by decide +kernel⟩
noncomputable def m_need_any_vector : Sm :=
    (sSeq (sIf (tOr_ (tNt (tVal (eIsi "tuple" (eVar 1)))) (tNt (tVal (eCall f_fits_size (esCons (eCa pLen (esCons (eVar 1) esNil)) esNil))))) sNo sNil)
    (sDo (eCall f_need_vector (esCons (eVar 0) (esCons (eCa pLen (esCons (eVar 1) esNil)) (esCons (eVar 1) esNil))))))
noncomputable def f_need_any_vector : Fn := fun args S => if args.length = 2 then fnRun 0 m_need_any_vector args S else none
theorem ok_need_any_vector (nb : NB mg) (h_fits_size : FnG P w K mg base 2 (Str.ofString "fits_size") f_fits_size) (h_need_vector : FnG P w K mg base 5 (Str.ofString "need_vector") f_need_vector) {f : Addr} {fd : FuncData} (F : Fun K (Str.ofString "need_any_vector") (Str.ofString "need_any_vector") st_need_any_vector f fd) (hm : mg (Str.ofString "need_any_vector") = some (.ref f)) : FnG P w K mg base 6 (Str.ofString "need_any_vector") f_need_any_vector :=
  fn_def (m := m_need_any_vector) F hm sc_need_any_vector rfl (fun _ _ _ _ _ _ us hl => match us, hl with | [_, _], _ => rfl) fun cdv A outer s H E g =>
    (db_cons (ds_if (dt_w (dw_or (dt_not (dt_val (de_isi (n := "tuple") (by decide) nb.isinstance nb.tuple bt_tuple (de_var 1)))) (dw_or1 (dt_not (dt_val (de_call g (h_fits_size.mono (by decide)) (da_cons (c_len nb.len (de_var 1)) da_nil))))))) (db_one ds_no) db_nil)
    (db_one (ds_do (de_call g (h_need_vector.mono (by decide)) (da_cons (de_var 0) (da_cons (c_len nb.len (de_var 1)) (da_cons (de_var 1) da_nil)))))))
/-! ### need_word -/
abbrev st_need_word : Stmt := topS 19
abbrev n_need_word : List Str := [(Str.ofString "width"), (Str.ofString "value")]
theorem sc_need_word : FnScope n_need_word [(Str.ofString "width"), (Str.ofString "value")] (defScope st_need_word) := ⟨rfl, rfl, rfl, by decide +kernel, rfl, by decide +kernel, by decide +kernel⟩
noncomputable def m_need_word : Sm :=
    (sIf (tNt (tVal (eCall f_fits_word (esCons (eVar 0) (esCons (eVar 1) esNil))))) sNo sNil)
noncomputable def f_need_word : Fn := fun args S => if args.length = 2 then fnRun 0 m_need_word args S else none
theorem ok_need_word (nb : NB mg) (h_fits_word : FnG P w K mg base 2 (Str.ofString "fits_word") f_fits_word) {f : Addr} {fd : FuncData} (F : Fun K (Str.ofString "need_word") (Str.ofString "need_word") st_need_word f fd) (hm : mg (Str.ofString "need_word") = some (.ref f)) : FnG P w K mg base 3 (Str.ofString "need_word") f_need_word :=
  fn_def (m := m_need_word) F hm sc_need_word rfl (fun _ _ _ _ _ _ us hl => match us, hl with | [_, _], _ => rfl) fun cdv A outer s H E g =>
    (db_one (ds_if (dt_not (dt_val (de_call g (h_fits_word.mono (by decide)) (da_cons (de_var 0) (da_cons (de_var 1) da_nil))))) (db_one ds_no) db_nil))
/-! ### multiplied -/
abbrev st_multiplied : Stmt := topS 24
abbrev n_multiplied : List Str := [(Str.ofString "width"), (Str.ofString "vector"), (Str.ofString "factor"), (Str.ofString "mask"), (Str.ofString "x")]
theorem sc_multiplied : FnScope n_multiplied [(Str.ofString "width"), (Str.ofString "vector"), (Str.ofString "factor")] (defScope st_multiplied) := ⟨rfl, rfl, rfl, by decide +kernel, rfl, by decide +kernel, by decide +kernel⟩
noncomputable def m_multiplied : Sm :=
    (sSeq (sSet 3 (eBin pSub (eBin pShl (eLit (.int 1)) (eVar 0)) (eLit (.int 1))))
    (sRet (eCa pTupOf (esCons (eComp (wSeq (eVar 1)) (gVar 4) tTrue (eBin pAnd (eBin pTimes (eVar 4) (eVar 2)) (eVar 3)) [4]) esNil))))
noncomputable def f_multiplied : Fn := fun args S => if args.length = 3 then fnRun 2 m_multiplied args S else none
theorem ok_multiplied (nb : NB mg) {f : Addr} {fd : FuncData} (F : Fun K (Str.ofString "multiplied") (Str.ofString "multiplied") st_multiplied f fd) (hm : mg (Str.ofString "multiplied") = some (.ref f)) : FnG P w K mg base 1 (Str.ofString "multiplied") f_multiplied :=
  fn_def (m := m_multiplied) F hm sc_multiplied rfl (fun _ _ _ _ _ _ us hl => match us, hl with | [_, _, _], _ => rfl) fun cdv A outer s H E g =>
    (db_cons (s_set g (de_sub (de_shl de_int (de_var 0)) de_int))
    (db_one (ds_ret (c_tuple nb.tuple (de_comp g.calm g.nd (di_seq (de_var 1)) (blkOk_by (own := [((Str.ofString "x"), 4)]) (N := n_multiplied) (sc := defScope st_multiplied) (by decide +kernel)) (by decide) (fun s H C cl fp => (dg_var (g.blk s H _ _ fp).nd)) (fun s H C cl fp => dts_nil) (fun s H C cl fp => (de_and_ (de_times (de_var 4) (de_var 2)) (de_var 3))))))))
/-! ### vector_multiple -/
abbrev st_vector_multiple : Stmt := topS 10
abbrev n_vector_multiple : List Str := [(Str.ofString "width"), (Str.ofString "vector"), (Str.ofString "factor")]
theorem sc_vector_multiple : FnScope n_vector_multiple [(Str.ofString "width"), (Str.ofString "vector"), (Str.ofString "factor")] (defScope st_vector_multiple) := ⟨rfl, rfl, rfl, by decide +kernel, rfl, by decide +kernel, by decide +kernel⟩
noncomputable def m_vector_multiple : Sm :=
    (sSeq (sDo (eCall f_need_width (esCons (eVar 0) esNil)))
    (sSeq (sDo (eCall f_need_any_vector (esCons (eVar 0) (esCons (eVar 1) esNil))))
    (sSeq (sDo (eCall f_need_word (esCons (eVar 0) (esCons (eVar 2) esNil))))
    (sRet (eCall f_multiplied (esCons (eVar 0) (esCons (eVar 1) (esCons (eVar 2) esNil))))))))
noncomputable def f_vector_multiple : Fn := fun args S => if args.length = 3 then fnRun 0 m_vector_multiple args S else none
theorem ok_vector_multiple (nb : NB mg) (h_need_width : FnG P w K mg base 3 (Str.ofString "need_width") f_need_width) (h_need_any_vector : FnG P w K mg base 6 (Str.ofString "need_any_vector") f_need_any_vector) (h_need_word : FnG P w K mg base 3 (Str.ofString "need_word") f_need_word) (h_multiplied : FnG P w K mg base 1 (Str.ofString "multiplied") f_multiplied) {f : Addr} {fd : FuncData} (F : Fun K (Str.ofString "vector_multiple") (Str.ofString "vector_multiple") st_vector_multiple f fd) (hm : mg (Str.ofString "vector_multiple") = some (.ref f)) : FnG P w K mg base 7 (Str.ofString "vector_multiple") f_vector_multiple :=
  fn_def (m := m_vector_multiple) F hm sc_vector_multiple rfl (fun _ _ _ _ _ _ us hl => match us, hl with | [_, _, _], _ => rfl) fun cdv A outer s H E g =>
    (db_cons (ds_do (de_call g (h_need_width.mono (by decide)) (da_cons (de_var 0) da_nil)))
    (db_cons (ds_do (de_call g (h_need_any_vector.mono (by decide)) (da_cons (de_var 0) (da_cons (de_var 1) da_nil))))
    (db_cons (ds_do (de_call g (h_need_word.mono (by decide)) (da_cons (de_var 0) (da_cons (de_var 2) da_nil))))
    (db_one (ds_ret (de_call g (h_multiplied.mono (by decide)) (da_cons (de_var 0) (da_cons (de_var 1) (da_cons (de_var 2) da_nil)))))))))
/-! ### dot -/
abbrev st_dot : Stmt := topS 25
abbrev n_dot : List Str := [(Str.ofString "width"), (Str.ofString "first"), (Str.ofString "second"), (Str.ofString "mask"), (Str.ofString "x"), (Str.ofString "y")]
theorem sc_dot : FnScope n_dot [(Str.ofString "width"), (Str.ofString "first"), (Str.ofString "second")] (defScope st_dot) := ⟨rfl, rfl, rfl, by decide +kernel, rfl, by decide +kernel, by decide +kernel⟩
noncomputable def m_dot : Sm :=
    (sSeq (sSet 3 (eBin pSub (eBin pShl (eLit (.int 1)) (eVar 0)) (eLit (.int 1))))
    (sRet (eBin pAnd (eCa pSum (esCons (eComp (wZip (eVar 1) (eVar 2)) (gPair (gVar 4) (gVar 5)) tTrue (eBin pTimes (eVar 4) (eVar 5)) [4, 5]) esNil)) (eVar 3))))
noncomputable def f_dot : Fn := fun args S => if args.length = 3 then fnRun 3 m_dot args S else none
theorem ok_dot (nb : NB mg) {f : Addr} {fd : FuncData} (F : Fun K (Str.ofString "dot") (Str.ofString "dot") st_dot f fd) (hm : mg (Str.ofString "dot") = some (.ref f)) : FnG P w K mg base 1 (Str.ofString "dot") f_dot :=
  fn_def (m := m_dot) F hm sc_dot rfl (fun _ _ _ _ _ _ us hl => match us, hl with | [_, _, _], _ => rfl) fun cdv A outer s H E g =>
    (db_cons (s_set g (de_sub (de_shl de_int (de_var 0)) de_int))
    (db_one (ds_ret (de_and_ (c_sum g nb.sum (de_comp g.calm g.nd (di_zip nb.zip (de_var 1) (de_var 2)) (blkOk_by (own := [((Str.ofString "x"), 4), ((Str.ofString "y"), 5)]) (N := n_dot) (sc := defScope st_dot) (by decide +kernel)) (by decide) (fun s H C cl fp => (dg_pair (g.blk s H _ _ fp).calm (dg_var (g.blk s H _ _ fp).nd) (dg_var (g.blk s H _ _ fp).nd))) (fun s H C cl fp => dts_nil) (fun s H C cl fp => (de_times (de_var 4) (de_var 5))))) (de_var 3)))))
/-! ### dot_product -/
abbrev st_dot_product : Stmt := topS 11
abbrev n_dot_product : List Str := [(Str.ofString "width"), (Str.ofString "first"), (Str.ofString "second")]
theorem sc_dot_product : FnScope n_dot_product [(Str.ofString "width"), (Str.ofString "first"), (Str.ofString "second")] (defScope st_dot_product) := ⟨rfl, rfl, rfl, by decide +kernel, rfl, by decide +kernel, by decide +kernel⟩
noncomputable def m_dot_product : Sm :=
    (sSeq (sDo (eCall f_need_width (esCons (eVar 0) esNil)))
    (sSeq (sDo (eCall f_need_any_vector (esCons (eVar 0) (esCons (eVar 1) esNil))))
    (sSeq (sDo (eCall f_need_vector (esCons (eVar 0) (esCons (eCa pLen (esCons (eVar 1) esNil)) (esCons (eVar 2) esNil)))))
    (sRet (eCall f_dot (esCons (eVar 0) (esCons (eVar 1) (esCons (eVar 2) esNil))))))))
noncomputable def f_dot_product : Fn := fun args S => if args.length = 3 then fnRun 0 m_dot_product args S else none
theorem ok_dot_product (nb : NB mg) (h_need_width : FnG P w K mg base 3 (Str.ofString "need_width") f_need_width) (h_need_vector : FnG P w K mg base 5 (Str.ofString "need_vector") f_need_vector) (h_need_any_vector : FnG P w K mg base 6 (Str.ofString "need_any_vector") f_need_any_vector) (h_dot : FnG P w K mg base 1 (Str.ofString "dot") f_dot) {f : Addr} {fd : FuncData} (F : Fun K (Str.ofString "dot_product") (Str.ofString "dot_product") st_dot_product f fd) (hm : mg (Str.ofString "dot_product") = some (.ref f)) : FnG P w K mg base 7 (Str.ofString "dot_product") f_dot_product :=
  fn_def (m := m_dot_product) F hm sc_dot_product rfl (fun _ _ _ _ _ _ us hl => match us, hl with | [_, _, _], _ => rfl) fun cdv A outer s H E g =>
    (db_cons (ds_do (de_call g (h_need_width.mono (by decide)) (da_cons (de_var 0) da_nil)))
    (db_cons (ds_do (de_call g (h_need_any_vector.mono (by decide)) (da_cons (de_var 0) (da_cons (de_var 1) da_nil))))
    (db_cons (ds_do (de_call g (h_need_vector.mono (by decide)) (da_cons (de_var 0) (da_cons (c_len nb.len (de_var 1)) (da_cons (de_var 2) da_nil)))))
    (db_one (ds_ret (de_call g (h_dot.mono (by decide)) (da_cons (de_var 0) (da_cons (de_var 1) (da_cons (de_var 2) da_nil)))))))))
/-! ### _law_stream -/
abbrev st__law_stream : Stmt := topS 27
abbrev n__law_stream : List Str := [(Str.ofString "script"), (Str.ofString "at"), (Str.ofString "cell"), (Str.ofString "great"), (Str.ofString "mixed")]
theorem sc__law_stream : FnScope n__law_stream [(Str.ofString "script"), (Str.ofString "at")] (defScope st__law_stream) := ⟨rfl, rfl, rfl, by decide +kernel, rfl, by decide +kernel, by decide +kernel⟩
noncomputable def m__law_stream : Sm :=
    (sSeq (sSet 2 (eBin pPlus (eBin pTimes (eLit (.int 11)) (eVar 1)) (eLit (.int 4))))
    (sSeq (sIf (tVal (eBin pLt (eVar 1) (eCa pLen (esCons (eVar 0) esNil)))) (sSet 2 (eBin pIx (eVar 0) (eVar 1))) sNil)
    (sSeq (sSet 3 (eBin pMod (eCa pAbs (esCons (eVar 2) esNil)) (eBin pPow (eBin pPow (eLit (.int 10)) (eLit (.int 60))) (eLit (.int 12)))))
    (sSeq (sSet 4 (eBin pMod (eBin pPlus (eBin pPlus (eBin pPlus (eBin pTimes (eBin pMod (eVar 3) (eLit (.int 2147483587))) (eLit (.int 69621))) (eBin pTimes (eLit (.int 1009)) (eVar 1))) (eBin pTimes (eLit (.int 3)) (eCa pInt (esCons (eBin pLt (eVar 2) (eLit (.int 0))) esNil)))) (eLit (.int 17))) (eLit (.int 2147483647))))
    (sRetNew (nLst (esCons (eCa pMax (esCons (eLit (.int 0)) (esCons (eBin pSub (eVar 3) (eBin pPow (eLit (.int 10)) (eLit (.int 18)))) esNil))) (esCons (eVar 4) (esCons (eLit (.int 0)) esNil)))))))))
noncomputable def f__law_stream : Fn := fun args S => if args.length = 2 then fnRun 3 m__law_stream args S else none
theorem ok__law_stream (nb : NB mg) {f : Addr} {fd : FuncData} (F : Fun K (Str.ofString "_law_stream") (Str.ofString "_law_stream") st__law_stream f fd) (hm : mg (Str.ofString "_law_stream") = some (.ref f)) : FnG P w K mg base 1 (Str.ofString "_law_stream") f__law_stream :=
  fn_def (m := m__law_stream) F hm sc__law_stream rfl (fun _ _ _ _ _ _ us hl => match us, hl with | [_, _], _ => rfl) fun cdv A outer s H E g =>
    (db_cons (s_set g (de_plus (de_times de_int (de_var 1)) de_int))
    (db_cons (ds_if (dt_lt (de_var 1) (c_len nb.len (de_var 0))) (db_one (s_set g (de_ix (de_var 0) (de_var 1)))) db_nil)
    (db_cons (s_set g (de_mod (c_abs nb.abs (de_var 2)) (de_pow (de_pow de_int de_int) de_int)))
    (db_cons (s_set g (de_mod (de_plus (de_plus (de_plus (de_times (de_mod (de_var 3) de_int) de_int) (de_times de_int (de_var 1))) (de_times de_int (c_int nb.int (de_lt (de_var 2) de_int)))) de_int) de_int))
    (db_one (ds_retNew (dn_lst (da_cons (c_max g nb.max de_int (de_sub (de_var 3) (de_pow de_int de_int))) (da_cons (de_var 4) (da_cons de_int da_nil))))))))))
/-! ### _law_draw -/
abbrev st__law_draw : Stmt := topS 28
abbrev n__law_draw : List Str := [(Str.ofString "stream"), (Str.ofString "total"), (Str.ofString "found"), (Str.ofString "one"), (Str.ofString "two")]
theorem sc__law_draw : FnScope n__law_draw [(Str.ofString "stream"), (Str.ofString "total")] (defScope st__law_draw) := ⟨rfl, rfl, rfl, by decide +kernel, rfl, by decide +kernel, by decide +kernel⟩
noncomputable def m__law_draw : Sm :=
    (sSeq (sIf (tVal (eBin pGt (eBin pIx (eVar 0) (eLit (.int 0))) (eLit (.int 0)))) (sSeq (sSet 2 (eBin pMod (eBin pIx (eVar 0) (eLit (.int 0))) (eVar 1)))
    (sSeq (sSetIx (eBin pDiv (eBin pIx (eVar 0) (eLit (.int 0))) (eVar 1)) (eVar 0) (eLit (.int 0)))
    (sRet (eVar 2)))) sNil)
    (sSeq (sSetIx (eBin pPlus (eBin pIx (eVar 0) (eLit (.int 2))) (eLit (.int 1))) (eVar 0) (eLit (.int 2)))
    (sSeq (sSet 3 (eBin pMod (eBin pPlus (eBin pIx (eVar 0) (eLit (.int 1))) (eBin pTimes (eLit (.int 1000033)) (eBin pIx (eVar 0) (eLit (.int 2))))) (eLit (.int 2305843009213693951))))
    (sSeq (sSet 4 (eBin pMod (eBin pPlus (eBin pTimes (eBin pMod (eBin pTimes (eVar 3) (eVar 3)) (eLit (.int 2305843009213693921))) (eVar 3)) (eBin pTimes (eLit (.int 7919)) (eBin pIx (eVar 0) (eLit (.int 2))))) (eLit (.int 2305843009213693907))))
    (sRet (eBin pMod (eBin pDiv (eVar 4) (eLit (.int 8192))) (eVar 1)))))))
noncomputable def f__law_draw : Fn := fun args S => if args.length = 2 then fnRun 3 m__law_draw args S else none
theorem ok__law_draw (nb : NB mg) {f : Addr} {fd : FuncData} (F : Fun K (Str.ofString "_law_draw") (Str.ofString "_law_draw") st__law_draw f fd) (hm : mg (Str.ofString "_law_draw") = some (.ref f)) : FnG P w K mg base 1 (Str.ofString "_law_draw") f__law_draw :=
  fn_def (m := m__law_draw) F hm sc__law_draw rfl (fun _ _ _ _ _ _ us hl => match us, hl with | [_, _], _ => rfl) fun cdv A outer s H E g =>
    (db_cons (ds_if (dt_gt (de_ix (de_var 0) de_int) de_int) (db_cons (s_set g (de_mod (de_ix (de_var 0) de_int) (de_var 1)))
    (db_cons (ds_setIx (de_div (de_ix (de_var 0) de_int) (de_var 1)) (de_var 0) de_int)
    (db_one (ds_ret (de_var 2))))) db_nil)
    (db_cons (ds_setIx (de_plus (de_ix (de_var 0) de_int) de_int) (de_var 0) de_int)
    (db_cons (s_set g (de_mod (de_plus (de_ix (de_var 0) de_int) (de_times de_int (de_ix (de_var 0) de_int))) de_int))
    (db_cons (s_set g (de_mod (de_plus (de_times (de_mod (de_times (de_var 3) (de_var 3)) de_int) (de_var 3)) (de_times de_int (de_ix (de_var 0) de_int))) de_int))
    (db_one (ds_ret (de_mod (de_div (de_var 4) de_int) (de_var 1))))))))
/-! ### _law_row -/
abbrev st__law_row : Stmt := topS 29
abbrev n__law_row : List Str := [(Str.ofString "stream"), (Str.ofString "width"), (Str.ofString "size"), (Str.ofString "some"), (Str.ofString "top"), (Str.ofString "at")]
theorem sc__law_row : FnScope n__law_row [(Str.ofString "stream"), (Str.ofString "width"), (Str.ofString "size")] (defScope st__law_row) := ⟨rfl, rfl, rfl, by decide +kernel, rfl, by decide +kernel, by decide +kernel⟩
noncomputable def m__law_row : Sm :=
    (sSeq (sParN 3 4 (nLst esNil) (eBin pShl (eLit (.int 1)) (eVar 1)))
    (sSeq (sFor (wRng1 (eVar 2)) (gVar 5) (sDo (eApp (eVar 3) (eBin pIx (eCa dispL (esCons (eLit (.int 0)) (esCons (eLit (.int 1)) (esCons (eLit (.int 0)) (esCons (eLit (.int 1)) (esCons (eBin pMod (eLit (.int 2)) (eVar 4)) (esCons (eBin pSub (eVar 4) (eLit (.int 1))) (esCons (eBin pDiv (eVar 4) (eLit (.int 2))) (esCons (eCall f__law_draw (esCons (eVar 0) (esCons (eVar 4) esNil))) esNil))))))))) (eCall f__law_draw (esCons (eVar 0) (esCons (eLit (.int 8)) esNil)))))))
    (sRet (eCa pTupOf (esCons (eVar 3) esNil)))))
noncomputable def f__law_row : Fn := fun args S => if args.length = 3 then fnRun 3 m__law_row args S else none
theorem ok__law_row (nb : NB mg) (h__law_draw : FnG P w K mg base 1 (Str.ofString "_law_draw") f__law_draw) {f : Addr} {fd : FuncData} (F : Fun K (Str.ofString "_law_row") (Str.ofString "_law_row") st__law_row f fd) (hm : mg (Str.ofString "_law_row") = some (.ref f)) : FnG P w K mg base 2 (Str.ofString "_law_row") f__law_row :=
  fn_def (m := m__law_row) F hm sc__law_row rfl (fun _ _ _ _ _ _ us hl => match us, hl with | [_, _, _], _ => rfl) fun cdv A outer s H E g =>
    (db_cons (ds_parN g (dn_lst da_nil) (de_shl de_int (de_var 1)))
    (db_cons (ds_for g.po g.calm (di_rng1 nb.range (de_var 2)) (dg_var g.nd) (db_one (ds_do (de_append (de_var 3) (de_ix (de_lst (da_cons de_int (da_cons de_int (da_cons de_int (da_cons de_int (da_cons (de_mod de_int (de_var 4)) (da_cons (de_sub (de_var 4) de_int) (da_cons (de_div (de_var 4) de_int) (da_cons (de_call g (h__law_draw.mono (by decide)) (da_cons (de_var 0) (da_cons (de_var 4) da_nil))) da_nil))))))))) (de_call g (h__law_draw.mono (by decide)) (da_cons (de_var 0) (da_cons de_int da_nil))))))))
    (db_one (ds_ret (c_tuple nb.tuple (de_var 3))))))
/-! ### _law_dot -/
abbrev st__law_dot : Stmt := topS 30
abbrev n__law_dot : List Str := [(Str.ofString "width"), (Str.ofString "row"), (Str.ofString "state"), (Str.ofString "one"), (Str.ofString "other")]
theorem sc__law_dot : FnScope n__law_dot [(Str.ofString "width"), (Str.ofString "row"), (Str.ofString "state")] (defScope st__law_dot) := ⟨rfl, rfl, rfl, by decide +kernel, rfl, by decide +kernel, by decide +kernel⟩
noncomputable def m__law_dot : Sm :=
    (sRet (eBin pMod (eCa pSum (esCons (eComp (wZip (eVar 1) (eVar 2)) (gPair (gVar 3) (gVar 4)) tTrue (eBin pTimes (eVar 3) (eVar 4)) [3, 4]) esNil)) (eBin pShl (eLit (.int 1)) (eVar 0))))
noncomputable def f__law_dot : Fn := fun args S => if args.length = 3 then fnRun 2 m__law_dot args S else none
theorem ok__law_dot (nb : NB mg) {f : Addr} {fd : FuncData} (F : Fun K (Str.ofString "_law_dot") (Str.ofString "_law_dot") st__law_dot f fd) (hm : mg (Str.ofString "_law_dot") = some (.ref f)) : FnG P w K mg base 1 (Str.ofString "_law_dot") f__law_dot :=
  fn_def (m := m__law_dot) F hm sc__law_dot rfl (fun _ _ _ _ _ _ us hl => match us, hl with | [_, _, _], _ => rfl) fun cdv A outer s H E g =>
    (db_one (ds_ret (de_mod (c_sum g nb.sum (de_comp g.calm g.nd (di_zip nb.zip (de_var 1) (de_var 2)) (blkOk_by (own := [((Str.ofString "one"), 3), ((Str.ofString "other"), 4)]) (N := n__law_dot) (sc := defScope st__law_dot) (by decide +kernel)) (by decide) (fun s H C cl fp => (dg_pair (g.blk s H _ _ fp).calm (dg_var (g.blk s H _ _ fp).nd) (dg_var (g.blk s H _ _ fp).nd))) (fun s H C cl fp => dts_nil) (fun s H C cl fp => (de_times (de_var 3) (de_var 4))))) (de_shl de_int (de_var 0)))))
/-! ### _law_width -/
abbrev st__law_width : Stmt := topS 31
abbrev n__law_width : List Str := [(Str.ofString "stream")]
theorem sc__law_width : FnScope n__law_width [(Str.ofString "stream")] (defScope st__law_width) := ⟨rfl, rfl, rfl, by decide +kernel, rfl, by decide +kernel, by decide +kernel⟩
noncomputable def m__law_width : Sm :=
    (sRet (eBin pIx (eCa dispL (esCons (eLit (.int 1)) (esCons (eLit (.int 2)) (esCons (eLit (.int 3)) (esCons (eLit (.int 4)) (esCons (eLit (.int 8)) (esCons (eLit (.int 16)) (esCons (eLit (.int 5)) (esCons (eBin pPlus (eLit (.int 1)) (eCall f__law_draw (esCons (eVar 0) (esCons (eLit (.int 16)) esNil)))) esNil))))))))) (eCall f__law_draw (esCons (eVar 0) (esCons (eLit (.int 8)) esNil)))))
noncomputable def f__law_width : Fn := fun args S => if args.length = 1 then fnRun 0 m__law_width args S else none
theorem ok__law_width (nb : NB mg) (h__law_draw : FnG P w K mg base 1 (Str.ofString "_law_draw") f__law_draw) {f : Addr} {fd : FuncData} (F : Fun K (Str.ofString "_law_width") (Str.ofString "_law_width") st__law_width f fd) (hm : mg (Str.ofString "_law_width") = some (.ref f)) : FnG P w K mg base 2 (Str.ofString "_law_width") f__law_width :=
  fn_def (m := m__law_width) F hm sc__law_width rfl (fun _ _ _ _ _ _ us hl => match us, hl with | [_], _ => rfl) fun cdv A outer s H E g =>
    (db_one (ds_ret (de_ix (de_lst (da_cons de_int (da_cons de_int (da_cons de_int (da_cons de_int (da_cons de_int (da_cons de_int (da_cons de_int (da_cons (de_plus de_int (de_call g (h__law_draw.mono (by decide)) (da_cons (de_var 0) (da_cons de_int da_nil)))) da_nil))))))))) (de_call g (h__law_draw.mono (by decide)) (da_cons (de_var 0) (da_cons de_int da_nil))))))
/-! ### _law_size -/
abbrev st__law_size : Stmt := topS 32
abbrev n__law_size : List Str := [(Str.ofString "stream")]
theorem sc__law_size : FnScope n__law_size [(Str.ofString "stream")] (defScope st__law_size) := ⟨rfl, rfl, rfl, by decide +kernel, rfl, by decide +kernel, by decide +kernel⟩
noncomputable def m__law_size : Sm :=
    (sRet (eBin pIx (eCa dispL (esCons (eLit (.int 1)) (esCons (eLit (.int 2)) (esCons (eLit (.int 3)) (esCons (eLit (.int 2)) (esCons (eLit (.int 4)) (esCons (eBin pPlus (eLit (.int 1)) (eCall f__law_draw (esCons (eVar 0) (esCons (eLit (.int 40)) esNil)))) esNil))))))) (eCall f__law_draw (esCons (eVar 0) (esCons (eLit (.int 6)) esNil)))))
noncomputable def f__law_size : Fn := fun args S => if args.length = 1 then fnRun 0 m__law_size args S else none
theorem ok__law_size (nb : NB mg) (h__law_draw : FnG P w K mg base 1 (Str.ofString "_law_draw") f__law_draw) {f : Addr} {fd : FuncData} (F : Fun K (Str.ofString "_law_size") (Str.ofString "_law_size") st__law_size f fd) (hm : mg (Str.ofString "_law_size") = some (.ref f)) : FnG P w K mg base 2 (Str.ofString "_law_size") f__law_size :=
  fn_def (m := m__law_size) F hm sc__law_size rfl (fun _ _ _ _ _ _ us hl => match us, hl with | [_], _ => rfl) fun cdv A outer s H E g =>
    (db_one (ds_ret (de_ix (de_lst (da_cons de_int (da_cons de_int (da_cons de_int (da_cons de_int (da_cons de_int (da_cons (de_plus de_int (de_call g (h__law_draw.mono (by decide)) (da_cons (de_var 0) (da_cons de_int da_nil)))) da_nil))))))) (de_call g (h__law_draw.mono (by decide)) (da_cons (de_var 0) (da_cons de_int da_nil))))))
/-! ### _law_sum -/
abbrev st__law_sum : Stmt := topS 33
abbrev n__law_sum : List Str := [(Str.ofString "width"), (Str.ofString "one"), (Str.ofString "other"), (Str.ofString "first"), (Str.ofString "second")]
theorem sc__law_sum : FnScope n__law_sum [(Str.ofString "width"), (Str.ofString "one"), (Str.ofString "other")] (defScope st__law_sum) := ⟨rfl, rfl, rfl, by decide +kernel, rfl, by decide +kernel, by decide +kernel⟩
noncomputable def m__law_sum : Sm :=
    (sRet (eCa pTupOf (esCons (eComp (wZip (eVar 1) (eVar 2)) (gPair (gVar 3) (gVar 4)) tTrue (eBin pMod (eBin pPlus (eVar 3) (eVar 4)) (eBin pShl (eLit (.int 1)) (eVar 0))) [3, 4]) esNil)))
noncomputable def f__law_sum : Fn := fun args S => if args.length = 3 then fnRun 2 m__law_sum args S else none
theorem ok__law_sum (nb : NB mg) {f : Addr} {fd : FuncData} (F : Fun K (Str.ofString "_law_sum") (Str.ofString "_law_sum") st__law_sum f fd) (hm : mg (Str.ofString "_law_sum") = some (.ref f)) : FnG P w K mg base 1 (Str.ofString "_law_sum") f__law_sum :=
  fn_def (m := m__law_sum) F hm sc__law_sum rfl (fun _ _ _ _ _ _ us hl => match us, hl with | [_, _, _], _ => rfl) fun cdv A outer s H E g =>
    (db_one (ds_ret (c_tuple nb.tuple (de_comp g.calm g.nd (di_zip nb.zip (de_var 1) (de_var 2)) (blkOk_by (own := [((Str.ofString "first"), 3), ((Str.ofString "second"), 4)]) (N := n__law_sum) (sc := defScope st__law_sum) (by decide +kernel)) (by decide) (fun s H C cl fp => (dg_pair (g.blk s H _ _ fp).calm (dg_var (g.blk s H _ _ fp).nd) (dg_var (g.blk s H _ _ fp).nd))) (fun s H C cl fp => dts_nil) (fun s H C cl fp => (de_mod (de_plus (de_var 3) (de_var 4)) (de_shl de_int (de_var 0))))))))
/-! ### _law_many -/
abbrev st__law_many : Stmt := topS 34
abbrev n__law_many : List Str := [(Str.ofString "width"), (Str.ofString "vector"), (Str.ofString "factor"), (Str.ofString "word")]
theorem sc__law_many : FnScope n__law_many [(Str.ofString "width"), (Str.ofString "vector"), (Str.ofString "factor")] (defScope st__law_many) := ⟨rfl, rfl, rfl, by decide +kernel, rfl, by decide +kernel, by decide +kernel⟩
noncomputable def m__law_many : Sm :=
    (sRet (eCa pTupOf (esCons (eComp (wSeq (eVar 1)) (gVar 3) tTrue (eBin pMod (eBin pTimes (eVar 2) (eVar 3)) (eBin pShl (eLit (.int 1)) (eVar 0))) [3]) esNil)))
noncomputable def f__law_many : Fn := fun args S => if args.length = 3 then fnRun 1 m__law_many args S else none
theorem ok__law_many (nb : NB mg) {f : Addr} {fd : FuncData} (F : Fun K (Str.ofString "_law_many") (Str.ofString "_law_many") st__law_many f fd) (hm : mg (Str.ofString "_law_many") = some (.ref f)) : FnG P w K mg base 1 (Str.ofString "_law_many") f__law_many :=
  fn_def (m := m__law_many) F hm sc__law_many rfl (fun _ _ _ _ _ _ us hl => match us, hl with | [_, _, _], _ => rfl) fun cdv A outer s H E g =>
    (db_one (ds_ret (c_tuple nb.tuple (de_comp g.calm g.nd (di_seq (de_var 1)) (blkOk_by (own := [((Str.ofString "word"), 3)]) (N := n__law_many) (sc := defScope st__law_many) (by decide +kernel)) (by decide) (fun s H C cl fp => (dg_var (g.blk s H _ _ fp).nd)) (fun s H C cl fp => dts_nil) (fun s H C cl fp => (de_mod (de_times (de_var 2) (de_var 3)) (de_shl de_int (de_var 0))))))))
/-! ### _law_word -/
abbrev st__law_word : Stmt := topS 35
abbrev n__law_word : List Str := [(Str.ofString "stream"), (Str.ofString "width")]
theorem sc__law_word : FnScope n__law_word [(Str.ofString "stream"), (Str.ofString "width")] (defScope st__law_word) := ⟨rfl, rfl, rfl, by decide +kernel, rfl, by decide +kernel, by decide +kernel⟩
noncomputable def m__law_word : Sm :=
    (sRet (eBin pIx (eCall f__law_row (esCons (eVar 0) (esCons (eVar 1) (esCons (eLit (.int 1)) esNil)))) (eLit (.int 0))))
noncomputable def f__law_word : Fn := fun args S => if args.length = 2 then fnRun 0 m__law_word args S else none
theorem ok__law_word (nb : NB mg) (h__law_row : FnG P w K mg base 2 (Str.ofString "_law_row") f__law_row) {f : Addr} {fd : FuncData} (F : Fun K (Str.ofString "_law_word") (Str.ofString "_law_word") st__law_word f fd) (hm : mg (Str.ofString "_law_word") = some (.ref f)) : FnG P w K mg base 3 (Str.ofString "_law_word") f__law_word :=
  fn_def (m := m__law_word) F hm sc__law_word rfl (fun _ _ _ _ _ _ us hl => match us, hl with | [_, _], _ => rfl) fun cdv A outer s H E g =>
    (db_one (ds_ret (de_ix (de_call g (h__law_row.mono (by decide)) (da_cons (de_var 0) (da_cons (de_var 1) (da_cons de_int da_nil)))) de_int)))
/-! ### _law_sums_right -/
abbrev st__law_sums_right : Stmt := topS 36
abbrev n__law_sums_right : List Str := [(Str.ofString "width"), (Str.ofString "size"), (Str.ofString "one"), (Str.ofString "two"), (Str.ofString "three"), (Str.ofString "both"), (Str.ofString "found"), (Str.ofString "whole"), (Str.ofString "more")]
theorem sc__law_sums_right : FnScope n__law_sums_right [(Str.ofString "width"), (Str.ofString "size"), (Str.ofString "one"), (Str.ofString "two"), (Str.ofString "three")] (defScope st__law_sums_right) := ⟨rfl, rfl, rfl, by decide +kernel, rfl, by decide +kernel, by decide +kernel⟩
noncomputable def m__law_sums_right : Sm :=
    (sSeq (sSet 5 (eCall f__law_sum (esCons (eVar 0) (esCons (eVar 2) (esCons (eVar 3) esNil)))))
    (sSeq (sNew 6 (nLst (esCons (eCall f_vector_sum (esCons (eVar 0) (esCons (eVar 1) esNil))) (esCons (eCall f_vector_sum (esCons (eVar 0) (esCons (eVar 1) (esCons (eVar 2) esNil)))) (esCons (eCall f_vector_sum (esCons (eVar 0) (esCons (eVar 1) (esCons (eVar 2) (esCons (eVar 3) esNil))))) esNil)))))
    (sSeq (sNew 6 (nCat (eVar 6) (eCa dispL (esCons (eCall f_vector_sum (esCons (eVar 0) (esCons (eVar 1) (esCons (eVar 2) (esCons (eVar 3) (esCons (eVar 4) esNil)))))) (esCons (eCall f_vector_sum (esCons (eVar 0) (esCons (eVar 1) (esCons (eVar 4) (esCons (eVar 2) (esCons (eVar 3) esNil)))))) esNil)))))
    (sSeq (sSet 7 (eCall f__law_sum (esCons (eVar 0) (esCons (eVar 5) (esCons (eVar 4) esNil)))))
    (sSeq (sDo (eApp (eVar 6) (eCall f_vector_sum (esCons (eVar 0) (esCons (eVar 1) (esCons (eVar 2) (esCons (eVar 3) (esCons (eVar 4) (esCons (eVar 2) (esCons (eVar 3) esNil))))))))))
    (sSeq (sDo (eApp (eVar 6) (eCall f_vector_sum (esCons (eVar 0) (esCons (eVar 1) (esCons (eVar 2) (esCons (eVar 2) (esCons (eVar 2) (esCons (eVar 2) (esCons (eVar 2) (esCons (eVar 2) (esCons (eVar 2) (esCons (eVar 3) esNil)))))))))))))
    (sSeq (sSet 8 (eCall f__law_sum (esCons (eVar 0) (esCons (eCall f__law_many (esCons (eVar 0) (esCons (eVar 2) (esCons (eLit (.int 7)) esNil)))) (esCons (eVar 3) esNil)))))
    (sRet (eBin pEq (eCa pRepr (esCons (eVar 6) esNil)) (eCa pRepr (esCons (eCa dispL (esCons (eBin pTimes (eCa dispT (esCons (eLit (.int 0)) esNil)) (eVar 1)) (esCons (eVar 2) (esCons (eVar 5) (esCons (eVar 7) (esCons (eVar 7) (esCons (eCall f__law_sum (esCons (eVar 0) (esCons (eVar 7) (esCons (eVar 5) esNil)))) (esCons (eVar 8) esNil)))))))) esNil)))))))))))
noncomputable def f__law_sums_right : Fn := fun args S => if args.length = 5 then fnRun 4 m__law_sums_right args S else none
theorem ok__law_sums_right (nb : NB mg) (h_vector_sum : FnG P w K mg base 7 (Str.ofString "vector_sum") f_vector_sum) (h__law_sum : FnG P w K mg base 1 (Str.ofString "_law_sum") f__law_sum) (h__law_many : FnG P w K mg base 1 (Str.ofString "_law_many") f__law_many) {f : Addr} {fd : FuncData} (F : Fun K (Str.ofString "_law_sums_right") (Str.ofString "_law_sums_right") st__law_sums_right f fd) (hm : mg (Str.ofString "_law_sums_right") = some (.ref f)) : FnG P w K mg base 8 (Str.ofString "_law_sums_right") f__law_sums_right :=
  fn_def (m := m__law_sums_right) F hm sc__law_sums_right rfl (fun _ _ _ _ _ _ us hl => match us, hl with | [_, _, _, _, _], _ => rfl) fun cdv A outer s H E g =>
    (db_cons (s_set g (de_call g (h__law_sum.mono (by decide)) (da_cons (de_var 0) (da_cons (de_var 2) (da_cons (de_var 3) da_nil)))))
    (db_cons (s_new g (dn_lst (da_cons (de_call g (h_vector_sum.mono (by decide)) (da_cons (de_var 0) (da_cons (de_var 1) da_nil))) (da_cons (de_call g (h_vector_sum.mono (by decide)) (da_cons (de_var 0) (da_cons (de_var 1) (da_cons (de_var 2) da_nil)))) (da_cons (de_call g (h_vector_sum.mono (by decide)) (da_cons (de_var 0) (da_cons (de_var 1) (da_cons (de_var 2) (da_cons (de_var 3) da_nil))))) da_nil)))))
    (db_cons (s_new g (dn_cat (de_var 6) (de_lst (da_cons (de_call g (h_vector_sum.mono (by decide)) (da_cons (de_var 0) (da_cons (de_var 1) (da_cons (de_var 2) (da_cons (de_var 3) (da_cons (de_var 4) da_nil)))))) (da_cons (de_call g (h_vector_sum.mono (by decide)) (da_cons (de_var 0) (da_cons (de_var 1) (da_cons (de_var 4) (da_cons (de_var 2) (da_cons (de_var 3) da_nil)))))) da_nil)))))
    (db_cons (s_set g (de_call g (h__law_sum.mono (by decide)) (da_cons (de_var 0) (da_cons (de_var 5) (da_cons (de_var 4) da_nil)))))
    (db_cons (ds_do (de_append (de_var 6) (de_call g (h_vector_sum.mono (by decide)) (da_cons (de_var 0) (da_cons (de_var 1) (da_cons (de_var 2) (da_cons (de_var 3) (da_cons (de_var 4) (da_cons (de_var 2) (da_cons (de_var 3) da_nil))))))))))
    (db_cons (ds_do (de_append (de_var 6) (de_call g (h_vector_sum.mono (by decide)) (da_cons (de_var 0) (da_cons (de_var 1) (da_cons (de_var 2) (da_cons (de_var 2) (da_cons (de_var 2) (da_cons (de_var 2) (da_cons (de_var 2) (da_cons (de_var 2) (da_cons (de_var 2) (da_cons (de_var 3) da_nil)))))))))))))
    (db_cons (s_set g (de_call g (h__law_sum.mono (by decide)) (da_cons (de_var 0) (da_cons (de_call g (h__law_many.mono (by decide)) (da_cons (de_var 0) (da_cons (de_var 2) (da_cons de_int da_nil)))) (da_cons (de_var 3) da_nil)))))
    (db_one (ds_ret (de_eq g (c_repr g nb.repr (de_var 6)) (c_repr g nb.repr (de_lst (da_cons (de_times (de_tup (da_cons de_int da_nil)) (de_var 1)) (da_cons (de_var 2) (da_cons (de_var 5) (da_cons (de_var 7) (da_cons (de_var 7) (da_cons (de_call g (h__law_sum.mono (by decide)) (da_cons (de_var 0) (da_cons (de_var 7) (da_cons (de_var 5) da_nil)))) (da_cons (de_var 8) da_nil)))))))))))))))))))
/-! ### _law_products_right -/
abbrev st__law_products_right : Stmt := topS 37
abbrev n__law_products_right : List Str := [(Str.ofString "stream"), (Str.ofString "width"), (Str.ofString "one"), (Str.ofString "two"), (Str.ofString "three"), (Str.ofString "factor"), (Str.ofString "vector"), (Str.ofString "found"), (Str.ofString "whole")]
theorem sc__law_products_right : FnScope n__law_products_right [(Str.ofString "stream"), (Str.ofString "width"), (Str.ofString "one"), (Str.ofString "two"), (Str.ofString "three")] (defScope st__law_products_right) := ⟨rfl, rfl, rfl, by decide +kernel, rfl, by decide +kernel, by decide +kernel⟩
noncomputable def m__law_products_right : Sm :=
    (sSeq (sSet 5 (eCall f__law_word (esCons (eVar 0) (esCons (eVar 1) esNil))))
    (sSeq (sFor (wSeq (eCa dispT (esCons (eVar 2) (esCons (eVar 3) esNil)))) (gVar 6) (sIf (tVal (eBin pNe (eCa pRepr (esCons (eCall f_vector_multiple (esCons (eVar 1) (esCons (eVar 6) (esCons (eVar 5) esNil)))) esNil)) (eCa pRepr (esCons (eCall f__law_many (esCons (eVar 1) (esCons (eVar 6) (esCons (eVar 5) esNil)))) esNil)))) (sRet (eLit (.bool false))) sNil))
    (sSeq (sSet 7 (eCa dispL (esCons (eCall f_dot_product (esCons (eVar 1) (esCons (eVar 2) (esCons (eVar 4) esNil)))) (esCons (eCall f_dot_product (esCons (eVar 1) (esCons (eVar 3) (esCons (eVar 4) esNil)))) esNil))))
    (sSeq (sIf (tVal (eBin pNe (eCa pRepr (esCons (eVar 7) esNil)) (eCa pRepr (esCons (eCa dispL (esCons (eCall f__law_dot (esCons (eVar 1) (esCons (eVar 2) (esCons (eVar 4) esNil)))) (esCons (eCall f__law_dot (esCons (eVar 1) (esCons (eVar 3) (esCons (eVar 4) esNil)))) esNil))) esNil)))) (sRet (eLit (.bool false))) sNil)
    (sSeq (sSet 8 (eCall f_dot_product (esCons (eVar 1) (esCons (eCall f__law_sum (esCons (eVar 1) (esCons (eVar 2) (esCons (eCall f__law_many (esCons (eVar 1) (esCons (eVar 3) (esCons (eVar 5) esNil)))) esNil)))) (esCons (eVar 4) esNil)))))
    (sRet (eAnd (eBin pEq (eVar 8) (eBin pMod (eBin pPlus (eBin pIx (eVar 7) (eLit (.int 0))) (eBin pTimes (eVar 5) (eBin pIx (eVar 7) (eLit (.int 1))))) (eBin pShl (eLit (.int 1)) (eVar 1)))) (eBin pEq (eCall f_dot_product (esCons (eVar 1) (esCons (eVar 4) (esCons (eVar 2) esNil)))) (eBin pIx (eVar 7) (eLit (.int 0)))))))))))
noncomputable def f__law_products_right : Fn := fun args S => if args.length = 5 then fnRun 4 m__law_products_right args S else none
theorem ok__law_products_right (nb : NB mg) (h_vector_multiple : FnG P w K mg base 7 (Str.ofString "vector_multiple") f_vector_multiple) (h_dot_product : FnG P w K mg base 7 (Str.ofString "dot_product") f_dot_product) (h__law_dot : FnG P w K mg base 1 (Str.ofString "_law_dot") f__law_dot) (h__law_sum : FnG P w K mg base 1 (Str.ofString "_law_sum") f__law_sum) (h__law_many : FnG P w K mg base 1 (Str.ofString "_law_many") f__law_many) (h__law_word : FnG P w K mg base 3 (Str.ofString "_law_word") f__law_word) {f : Addr} {fd : FuncData} (F : Fun K (Str.ofString "_law_products_right") (Str.ofString "_law_products_right") st__law_products_right f fd) (hm : mg (Str.ofString "_law_products_right") = some (.ref f)) : FnG P w K mg base 8 (Str.ofString "_law_products_right") f__law_products_right :=
  fn_def (m := m__law_products_right) F hm sc__law_products_right rfl (fun _ _ _ _ _ _ us hl => match us, hl with | [_, _, _, _, _], _ => rfl) fun cdv A outer s H E g =>
    (db_cons (s_set g (de_call g (h__law_word.mono (by decide)) (da_cons (de_var 0) (da_cons (de_var 1) da_nil))))
    (db_cons (ds_for g.po g.calm (di_seq (de_tup (da_cons (de_var 2) (da_cons (de_var 3) da_nil)))) (dg_var g.nd) (db_one (ds_if (dt_ne g (c_repr g nb.repr (de_call g (h_vector_multiple.mono (by decide)) (da_cons (de_var 1) (da_cons (de_var 6) (da_cons (de_var 5) da_nil))))) (c_repr g nb.repr (de_call g (h__law_many.mono (by decide)) (da_cons (de_var 1) (da_cons (de_var 6) (da_cons (de_var 5) da_nil)))))) (db_one (ds_ret de_bl)) db_nil)))
    (db_cons (s_set g (de_lst (da_cons (de_call g (h_dot_product.mono (by decide)) (da_cons (de_var 1) (da_cons (de_var 2) (da_cons (de_var 4) da_nil)))) (da_cons (de_call g (h_dot_product.mono (by decide)) (da_cons (de_var 1) (da_cons (de_var 3) (da_cons (de_var 4) da_nil)))) da_nil))))
    (db_cons (ds_if (dt_ne g (c_repr g nb.repr (de_var 7)) (c_repr g nb.repr (de_lst (da_cons (de_call g (h__law_dot.mono (by decide)) (da_cons (de_var 1) (da_cons (de_var 2) (da_cons (de_var 4) da_nil)))) (da_cons (de_call g (h__law_dot.mono (by decide)) (da_cons (de_var 1) (da_cons (de_var 3) (da_cons (de_var 4) da_nil)))) da_nil))))) (db_one (ds_ret de_bl)) db_nil)
    (db_cons (s_set g (de_call g (h_dot_product.mono (by decide)) (da_cons (de_var 1) (da_cons (de_call g (h__law_sum.mono (by decide)) (da_cons (de_var 1) (da_cons (de_var 2) (da_cons (de_call g (h__law_many.mono (by decide)) (da_cons (de_var 1) (da_cons (de_var 3) (da_cons (de_var 5) da_nil)))) da_nil)))) (da_cons (de_var 4) da_nil)))))
    (db_one (ds_ret (de_and (de_eq g (de_var 8) (de_mod (de_plus (de_ix (de_var 7) de_int) (de_times (de_var 5) (de_ix (de_var 7) de_int))) (de_shl de_int (de_var 1)))) (de_one (de_eq g (de_call g (h_dot_product.mono (by decide)) (da_cons (de_var 1) (da_cons (de_var 4) (da_cons (de_var 2) da_nil)))) (de_ix (de_var 7) de_int)))))))))))
/-! ### law -/
abbrev st_law : Stmt := topS 38
abbrev n_law : List Str := [(Str.ofString "script"), (Str.ofString "k"), (Str.ofString "stream"), (Str.ofString "width"), (Str.ofString "size"), (Str.ofString "one"), (Str.ofString "two"), (Str.ofString "three"), (Str.ofString "turn"), (Str.ofString "held"), (Str.ofString "top")]
theorem sc_law : FnScope n_law [(Str.ofString "script")] (defScope st_law) := ⟨rfl, rfl, rfl, by decide +kernel, rfl, by decide +kernel, by decide +kernel⟩
noncomputable def m_law : Sm :=
    (sSeq (sFor (wRng1 (eCa pMax (esCons (eLit (.int 1)) (esCons (eCa pMin (esCons (eLit (.int 10)) (esCons (eCa pLen (esCons (eVar 0) esNil)) esNil))) esNil)))) (gVar 1) (sSeq (sNew 2 (nCall f__law_stream (esCons (eVar 0) (esCons (eVar 1) esNil))))
    (sSeq (sAsg (gPair (gVar 3) (gVar 4)) (eCa dispT (esCons (eCall f__law_width (esCons (eVar 2) esNil)) (esCons (eCall f__law_size (esCons (eVar 2) esNil)) esNil))))
    (sSeq (sAsg (gTrip3 (gVar 5) (gVar 6) (gVar 7)) (eComp (wRng1 (eLit (.int 3))) (gVar 8) tTrue (eCall f__law_row (esCons (eVar 2) (esCons (eVar 3) (esCons (eVar 4) esNil)))) [8]))
    (sSeq (sSet 9 (eCa pRepr (esCons (eCa dispL (esCons (eVar 5) (esCons (eVar 6) (esCons (eVar 7) esNil)))) esNil)))
    (sSeq (sIf (tOr_ (tNt (tVal (eCall f__law_sums_right (esCons (eVar 3) (esCons (eVar 4) (esCons (eVar 5) (esCons (eVar 6) (esCons (eVar 7) esNil)))))))) (tVal (eBin pNe (eCa pRepr (esCons (eCa dispL (esCons (eVar 5) (esCons (eVar 6) (esCons (eVar 7) esNil)))) esNil)) (eVar 9)))) (sRet (eLit (.bool false))) sNil)
    (sIf (tOr_ (tNt (tVal (eCall f__law_products_right (esCons (eVar 2) (esCons (eVar 3) (esCons (eVar 5) (esCons (eVar 6) (esCons (eVar 7) esNil)))))))) (tVal (eBin pNe (eCa pRepr (esCons (eCa dispL (esCons (eVar 5) (esCons (eVar 6) (esCons (eVar 7) esNil)))) esNil)) (eVar 9)))) (sRet (eLit (.bool false))) sNil)))))))
    (sSeq (sSet 10 (eBin pTimes (eCa dispT (esCons (eLit (.int 65535)) esNil)) (eLit (.int 40))))
    (sRet (eAnd (eBin pEq (eCall f_dot_product (esCons (eLit (.int 16)) (esCons (eVar 10) (esCons (eVar 10) esNil)))) (eLit (.int 40))) (eBin pEq (eCall f_vector_sum (esCons (eLit (.int 16)) (esCons (eLit (.int 40)) (esCons (eVar 10) (esCons (eVar 10) esNil))))) (eBin pTimes (eCa dispT (esCons (eLit (.int 65534)) esNil)) (eLit (.int 40))))))))
noncomputable def f_law : Fn := fun args S => if args.length = 1 then fnRun 10 m_law args S else none
theorem ok_law (nb : NB mg) (h_vector_sum : FnG P w K mg base 7 (Str.ofString "vector_sum") f_vector_sum) (h_dot_product : FnG P w K mg base 7 (Str.ofString "dot_product") f_dot_product) (h__law_stream : FnG P w K mg base 1 (Str.ofString "_law_stream") f__law_stream) (h__law_row : FnG P w K mg base 2 (Str.ofString "_law_row") f__law_row) (h__law_width : FnG P w K mg base 2 (Str.ofString "_law_width") f__law_width) (h__law_size : FnG P w K mg base 2 (Str.ofString "_law_size") f__law_size) (h__law_sums_right : FnG P w K mg base 8 (Str.ofString "_law_sums_right") f__law_sums_right) (h__law_products_right : FnG P w K mg base 8 (Str.ofString "_law_products_right") f__law_products_right) {f : Addr} {fd : FuncData} (F : Fun K (Str.ofString "law") (Str.ofString "law") st_law f fd) (hm : mg (Str.ofString "law") = some (.ref f)) : FnG P w K mg base 9 (Str.ofString "law") f_law :=
  fn_def (m := m_law) F hm sc_law rfl (fun _ _ _ _ _ _ us hl => match us, hl with | [_], _ => rfl) fun cdv A outer s H E g =>
    (db_cons (ds_for g.po g.calm (di_rng1 nb.range (c_max g nb.max de_int (c_min g nb.min de_int (c_len nb.len (de_var 0))))) (dg_var g.nd) (db_cons (s_new g (dn_call g (h__law_stream.mono (by decide)) (da_cons (de_var 0) (da_cons (de_var 1) da_nil))))
    (db_cons (ds_asg (de_tup (da_cons (de_call g (h__law_width.mono (by decide)) (da_cons (de_var 2) da_nil)) (da_cons (de_call g (h__law_size.mono (by decide)) (da_cons (de_var 2) da_nil)) da_nil))) (dg_pair g.calm (dg_var g.nd) (dg_var g.nd)))
    (db_cons (ds_asg (de_comp g.calm g.nd (di_rng1 nb.range de_int) (blkOk_by (own := [((Str.ofString "turn"), 8)]) (N := n_law) (sc := defScope st_law) (by decide +kernel)) (by decide) (fun s H C cl fp => (dg_var (g.blk s H _ _ fp).nd)) (fun s H C cl fp => dts_nil) (fun s H C cl fp => (de_call (g.blk s H _ _ fp) (h__law_row.mono (by decide)) (da_cons (de_var 2) (da_cons (de_var 3) (da_cons (de_var 4) da_nil)))))) (dg_trip3 g.calm (dg_var g.nd) (dg_var g.nd) (dg_var g.nd)))
    (db_cons (s_set g (c_repr g nb.repr (de_lst (da_cons (de_var 5) (da_cons (de_var 6) (da_cons (de_var 7) da_nil))))))
    (db_cons (ds_if (dt_w (dw_or (dt_not (dt_val (de_call g (h__law_sums_right.mono (by decide)) (da_cons (de_var 3) (da_cons (de_var 4) (da_cons (de_var 5) (da_cons (de_var 6) (da_cons (de_var 7) da_nil)))))))) (dw_or1 (dt_ne g (c_repr g nb.repr (de_lst (da_cons (de_var 5) (da_cons (de_var 6) (da_cons (de_var 7) da_nil))))) (de_var 9))))) (db_one (ds_ret de_bl)) db_nil)
    (db_one (ds_if (dt_w (dw_or (dt_not (dt_val (de_call g (h__law_products_right.mono (by decide)) (da_cons (de_var 2) (da_cons (de_var 3) (da_cons (de_var 5) (da_cons (de_var 6) (da_cons (de_var 7) da_nil)))))))) (dw_or1 (dt_ne g (c_repr g nb.repr (de_lst (da_cons (de_var 5) (da_cons (de_var 6) (da_cons (de_var 7) da_nil))))) (de_var 9))))) (db_one (ds_ret de_bl)) db_nil))))))))
    (db_cons (s_set g (de_times (de_tup (da_cons de_int da_nil)) de_int))
    (db_one (ds_ret (de_and (de_eq g (de_call g (h_dot_product.mono (by decide)) (da_cons de_int (da_cons (de_var 10) (da_cons (de_var 10) da_nil)))) de_int) (de_one (de_eq g (de_call g (h_vector_sum.mono (by decide)) (da_cons de_int (da_cons de_int (da_cons (de_var 10) (da_cons (de_var 10) da_nil))))) (de_times (de_tup (da_cons de_int da_nil)) de_int))))))))
end
end T
set_option maxRecDepth 100000
set_option maxHeartbeats 4000000
namespace T
open PySem PySem.Spec PyProof.Rows L2 Z
/-! ## the stream of draws -/
/-- a stream stands at i -/
def StrAt (S : Sto) (i : Nat) : Prop := ∃ a b c : Int, 0 ≤ a ∧ S[i]? = some (.lst [.int a, .int b, .int c])
/-- S' is S with another stream at i -/
def Dr (S : Sto) (i : Nat) (S' : Sto) : Prop := ∃ a b c : Int, 0 ≤ a ∧ S' = S.set i (.lst [.int a, .int b, .int c])
theorem Dr.at {S S' : Sto} {i : Nat} (h : Dr S i S') (hi : i < S.length) : StrAt S' i := by
  obtain ⟨a, b, c, ha, rfl⟩ := h
  exact ⟨a, b, c, ha, by rw [List.getElem?_set_self hi]⟩
theorem StrAt.lt {S : Sto} {i : Nat} (h : StrAt S i) : i < S.length := by
  obtain ⟨a, b, c, _, e⟩ := h
  exact (List.getElem?_eq_some_iff.mp e).1
theorem Dr.trans {S S1 S2 : Sto} {i : Nat} (h : Dr S i S1) (h2 : Dr S1 i S2) : Dr S i S2 := by
  obtain ⟨a, b, c, ha, rfl⟩ := h
  obtain ⟨a', b', c', ha', rfl⟩ := h2
  exact ⟨a', b', c', ha', by rw [List.set_set]⟩
theorem Dr.len {S S' : Sto} {i : Nat} (h : Dr S i S') : S'.length = S.length := by
  obtain ⟨a, b, c, ha, rfl⟩ := h
  simp
theorem Dr.self {S : Sto} {i : Nat} (h : StrAt S i) : Dr S i S := by
  obtain ⟨a, b, c, ha, e⟩ := h
  refine ⟨a, b, c, ha, ?_⟩
  apply List.ext_getElem?
  intro j
  by_cases hj : i = j
  · subst hj
    rw [List.getElem?_set_self (List.getElem?_eq_some_iff.mp e).1, e]
  · rw [List.getElem?_set_ne hj]
theorem take_set {S : Sto} {i : Nat} {o : Ob} : (S.set i o).take S.length = S.set i o := by
  rw [List.take_of_length_le (by simp)]
theorem draw_pos {S : Sto} {i : Nat} {a b c n : Int} (hS : S[i]? = some (.lst [.int a, .int b, .int c])) (ha : 0 < a) (hn : 0 < n) (hn2 : n < 18446744073709551616) :
    f__law_draw [.r i, .d (.int n)] S = some (.ok (.d (.int (a % n))) (S.set i (.lst [.int (a / n), .int b, .int c]))) := by
  have hi := (List.getElem?_eq_some_iff.mp hS).1
  simp [f__law_draw, m__law_draw, hS, atI, ixN, ha, hn, hn2, take_set]
def dr1 (b c : Int) : Int := (b + 1000033 * (c + 1)) % 2305843009213693951
def dr2 (b c : Int) : Int := (dr1 b c * dr1 b c % 2305843009213693921 * dr1 b c + 7919 * (c + 1)) % 2305843009213693907
theorem draw_zero {S : Sto} {i : Nat} {b c n : Int} (hS : S[i]? = some (.lst [.int 0, .int b, .int c])) (hn : 0 < n) :
    f__law_draw [.r i, .d (.int n)] S = some (.ok (.d (.int (dr2 b c / 8192 % n))) (S.set i (.lst [.int 0, .int b, .int (c + 1)]))) := by
  have hi := (List.getElem?_eq_some_iff.mp hS).1
  have sh1 : ∀ x : Int, short (x % 2305843009213693951) := fun x => by
    have h1 := Int.emod_nonneg x (show (2305843009213693951 : Int) ≠ 0 by decide)
    have h2 := Int.emod_lt_of_pos x (show (0 : Int) < 2305843009213693951 by decide)
    exact ⟨by omega, by omega⟩
  have k1 : short 1000033 := by unfold short; omega
  have k2 : short 7919 := by unfold short; omega
  have gs : ∀ o, (S.set i o)[i]? = some o := fun o => List.getElem?_set_self hi
  simp [f__law_draw, m__law_draw, hS, atI, ixN, hn, gs, k1, k2, sh1, List.set_set, take_set, dr1, dr2]
theorem draw {S : Sto} {i : Nat} {n : Int} (h : StrAt S i) (hn : 0 < n) (hn2 : n < 18446744073709551616) :
    ∃ (v : Int) (S' : Sto), 0 ≤ v ∧ v < n ∧ Dr S i S' ∧ f__law_draw [.r i, .d (.int n)] S = some (.ok (.d (.int v)) S') := by
  obtain ⟨a, b, c, ha, e⟩ := h
  by_cases h0 : 0 < a
  · exact ⟨a % n, _, Int.emod_nonneg _ (by omega), Int.emod_lt_of_pos _ hn, ⟨_, _, _, Int.ediv_nonneg ha (by omega), rfl⟩, draw_pos e h0 hn hn2⟩
  · have : a = 0 := by omega
    subst this
    exact ⟨_, _, Int.emod_nonneg _ (by omega), Int.emod_lt_of_pos _ hn, ⟨0, _, _, Int.le_refl _, rfl⟩, draw_zero e hn⟩
end T
set_option maxRecDepth 100000
set_option maxHeartbeats 4000000
namespace T
open PySem PySem.Spec PyProof.Rows L2 Z
theorem stream {ns : List Int} {k : Nat} {S : Sto} : ∃ a b : Int, 0 ≤ a ∧ f__law_stream [.s ns, .d (.int k)] S = some (.nw (.lst [.int a, .int b, .int 0]) S) := by
  have k1 : short 69621 := by unfold short; omega
  have k2 : short 1009 := by unfold short; omega
  have k3 : short 11 := by unfold short; omega
  have k4 : short 3 := by unfold short; omega
  have hp := T720_pos
  obtain ⟨cell, hc⟩ : ∃ cell : Int, (sIf (tVal (eBin pLt (eVar 1) (eCa pLen (esCons (eVar 0) esNil)))) (sSet 2 (eBin pIx (eVar 0) (eVar 1))) sNil) [some (.s ns), some (.d (.int k)), some (.d (.int (11 * k + 4))), none, none] S = some (.nx [some (.s ns), some (.d (.int k)), some (.d (.int cell)), none, none] S) := by
    by_cases hk : k < ns.length
    · have e : ns[k]? = some ns[k] := List.getElem?_eq_getElem hk
      exact ⟨ns[k], by simp [atI, ixN, hk, e]⟩
    · exact ⟨11 * k + 4, by simp [hk]⟩
  obtain ⟨great, hg⟩ : ∃ great : Int, (sSet 3 (eBin pMod (eCa pAbs (esCons (eVar 2) esNil)) (eBin pPow (eBin pPow (eLit (.int 10)) (eLit (.int 60))) (eLit (.int 12))))) [some (.s ns), some (.d (.int k)), some (.d (.int cell)), none, none] S = some (.nx [some (.s ns), some (.d (.int k)), some (.d (.int cell)), some (.d (.int great)), none] S) :=
    ⟨_, by simp [pow_a, pow_b, hp]; rfl⟩
  obtain ⟨mixed, hm⟩ : ∃ mixed : Int, (sSet 4 (eBin pMod (eBin pPlus (eBin pPlus (eBin pPlus (eBin pTimes (eBin pMod (eVar 3) (eLit (.int 2147483587))) (eLit (.int 69621))) (eBin pTimes (eLit (.int 1009)) (eVar 1))) (eBin pTimes (eLit (.int 3)) (eCa pInt (esCons (eBin pLt (eVar 2) (eLit (.int 0))) esNil)))) (eLit (.int 17))) (eLit (.int 2147483647)))) [some (.s ns), some (.d (.int k)), some (.d (.int cell)), some (.d (.int great)), none] S = some (.nx [some (.s ns), some (.d (.int k)), some (.d (.int cell)), some (.d (.int great)), some (.d (.int mixed))] S) :=
    ⟨_, by simp [k1, k2, k4]; rfl⟩
  obtain ⟨a, ha, he⟩ : ∃ a : Int, 0 ≤ a ∧ (sRetNew (nLst (esCons (eCa pMax (esCons (eLit (.int 0)) (esCons (eBin pSub (eVar 3) (eBin pPow (eLit (.int 10)) (eLit (.int 18)))) esNil))) (esCons (eVar 4) (esCons (eLit (.int 0)) esNil))))) [some (.s ns), some (.d (.int k)), some (.d (.int cell)), some (.d (.int great)), some (.d (.int mixed))] S = some (.rt (.r S.length) (S ++ [.lst [.int a, .int mixed, .int 0]])) := by
    simp [pow_c, sz_le]
    generalize T18 = t
    split <;> omega
  refine ⟨a, mixed, ha, ?_⟩
  have hr : m__law_stream [some (.s ns), some (.d (.int k)), none, none, none] S = some (.rt (.r S.length) (S ++ [.lst [.int a, .int mixed, .int 0]])) := by
    unfold m__law_stream
    rw [seq_nx (σ' := [some (.s ns), some (.d (.int k)), some (.d (.int (11 * k + 4))), none, none]) (S' := S) (by simp [k3]), seq_nx hc, seq_nx hg, seq_nx hm, he]
  simp [f__law_stream, hr]
theorem atI_in {α : Type} {ds : List α} {v : Int} (h : 0 ≤ v) (h2 : v < ds.length) : ∃ d, atI ds v = some d ∧ d ∈ ds := by
  have h3 : v.toNat < ds.length := by omega
  refine ⟨ds[v.toNat], ?_, List.getElem_mem h3⟩
  unfold atI ixN
  simp [h, h2, h3]
theorem Dr.app {A L S' : Sto} {i : Nat} (h : Dr (A ++ L) i S') (hi : i < A.length) : ∃ A', Dr A i A' ∧ S' = A' ++ L := by
  obtain ⟨a, b, c, ha, rfl⟩ := h
  exact ⟨_, ⟨a, b, c, ha, rfl⟩, List.set_append_left _ _ hi⟩
theorem StrAt.app {A L : Sto} {i : Nat} (h : StrAt A i) : StrAt (A ++ L) i := by
  have hl := h.lt
  obtain ⟨a, b, c, ha, e⟩ := h
  exact ⟨a, b, c, ha, by rw [List.getElem?_append_left hl]; exact e⟩
/-- a draw beside a store -/
theorem drawL {A L : Sto} {i : Nat} {n : Int} (h : StrAt A i) (hn : 0 < n) (hn2 : n < 18446744073709551616) :
    ∃ (v : Int) (A' : Sto), 0 ≤ v ∧ v < n ∧ Dr A i A' ∧ f__law_draw [.r i, .d (.int n)] (A ++ L) = some (.ok (.d (.int v)) (A' ++ L)) := by
  obtain ⟨v, S', h1, h2, h3, h4⟩ := draw (h.app (L := L)) hn hn2
  obtain ⟨A', h5, rfl⟩ := h3.app h.lt
  exact ⟨v, A', h1, h2, h5, h4⟩
/-- a word of width w -/
def wordsW (w : Nat) (ns : List Int) : Prop := ∀ n ∈ ns, 0 ≤ n ∧ n < 2 ^ w
theorem row {S : Sto} {i : Nat} {w n : Nat} (h : StrAt S i) (hw : 1 ≤ w) (hw2 : w ≤ 16) (hn : n ≤ 40) :
    ∃ (ns : List Int) (S' : Sto), Dr S i S' ∧ ns.length = n ∧ wordsW w ns ∧ f__law_row [.r i, .d (.int w), .d (.int n)] S = some (.ok (.d (tupI ns)) S') := by
  have ht : (2 : Int) ≤ 2 ^ w := by
    have h1 : (2 : Nat) ^ 1 ≤ 2 ^ w := Nat.pow_le_pow_right (by omega) hw
    have h2 : ((2 ^ w : Nat) : Int) = 2 ^ w := by rw [Int.natCast_pow]; rfl
    omega
  have ht2 : (2 : Int) ^ w ≤ 65536 := by
    have h1 : (2 : Nat) ^ w ≤ 2 ^ 16 := Nat.pow_le_pow_right (by omega) hw2
    have h2 : ((2 ^ w : Nat) : Int) = 2 ^ w := by rw [Int.natCast_pow]; rfl
    omega
  have loop := forGo_inv (g := gVar 5) (body := (sDo (eApp (eVar 3) (eBin pIx (eCa dispL (esCons (eLit (.int 0)) (esCons (eLit (.int 1)) (esCons (eLit (.int 0)) (esCons (eLit (.int 1)) (esCons (eBin pMod (eLit (.int 2)) (eVar 4)) (esCons (eBin pSub (eVar 4) (eLit (.int 1))) (esCons (eBin pDiv (eVar 4) (eLit (.int 2))) (esCons (eCall f__law_draw (esCons (eVar 0) (esCons (eVar 4) esNil))) esNil))))))))) (eCall f__law_draw (esCons (eVar 0) (esCons (eLit (.int 8)) esNil)))))))
    (fun j σ T => ∃ (A : Sto) (ns : List Int) (x : Option SV), Dr S i A ∧ T = A ++ [.lst (ns.map .int)] ∧ ns.length = j ∧ wordsW w ns ∧ σ = [some (.r i), some (.d (.int w)), some (.d (.int n)), some (.r S.length), some (.d (.int (2 ^ w))), x])
    (upTo 0 n) 0 (by
      rintro j d σ T hd ⟨A, ns, x, hA, rfl, hl, hns, rfl⟩
      obtain ⟨hj, rfl⟩ := upTo_get hd
      have hAl := hA.len
      refine ⟨_, rfl, ?_⟩
      obtain ⟨v, A1, v0, v1, dA, e1⟩ := drawL (L := [.lst (ns.map .int)]) (hA.at h.lt) (n := 2 ^ w) (by omega) (by omega)
      obtain ⟨u, A2, u0, u1, dA2, e2⟩ := drawL (L := [.lst (ns.map .int)]) ((hA.trans dA).at h.lt) (n := 8) (by omega) (by omega)
      obtain ⟨y, e3, hy⟩ := atI_in (ds := [PyData.int 0, .int 1, .int 0, .int 1, .int (2 % 2 ^ w), .int (2 ^ w - 1), .int (2 ^ w / 2), .int v]) u0 (by simpa using u1)
      have hp : (0 : Int) < 2 ^ w := by omega
      have hAl2 := ((hA.trans dA).trans dA2).len
      have g1 : ∀ o, (A ++ [o])[S.length]? = some o := fun o => by rw [← hAl]; simp
      have g2 : ∀ o, (A2 ++ [o])[S.length]? = some o := fun o => by rw [← hAl2]; simp
      have g3 : ∀ o o', (A2 ++ [o]).set S.length o' = A2 ++ [o'] := fun o o' => by rw [← hAl2]; simp
      have hz : ns.length < sizeLine := sz_lt (by omega)
      have hy2 : ∃ z : Int, y = .int z ∧ 0 ≤ z ∧ z < 2 ^ w := by
        simp only [List.mem_cons, List.not_mem_nil, or_false] at hy
        have q1 := Int.emod_nonneg 2 (show (2 : Int) ^ w ≠ 0 by omega)
        have q2 := Int.emod_lt_of_pos 2 hp
        rcases hy with rfl | rfl | rfl | rfl | rfl | rfl | rfl | rfl
        · exact ⟨0, rfl, by omega, by omega⟩
        · exact ⟨1, rfl, by omega, by omega⟩
        · exact ⟨0, rfl, by omega, by omega⟩
        · exact ⟨1, rfl, by omega, by omega⟩
        · exact ⟨_, rfl, q1, q2⟩
        · exact ⟨_, rfl, by omega, by omega⟩
        · exact ⟨_, rfl, by omega, by omega⟩
        · exact ⟨_, rfl, by omega, by omega⟩
      obtain ⟨z, rfl, z0, z1⟩ := hy2
      refine ⟨_, _, by simp [g1, g2, g3, e1, e2, e3, hp, sz_le, hz]; exact ⟨rfl, rfl⟩, A2, ns ++ [z], _, (hA.trans dA).trans dA2, by simp, by simp; omega, ?_, rfl⟩
      intro m hm
      rcases List.mem_append.mp hm with hm | hm
      · exact hns m hm
      · cases List.mem_singleton.mp hm
        exact ⟨z0, z1⟩)
  obtain ⟨σ', S', e, A, ns, x, hA, rfl, hl, hns, rfl⟩ := loop [some (.r i), some (.d (.int w)), some (.d (.int n)), some (.r S.length), some (.d (.int (2 ^ w))), none] (S ++ [.lst []]) ⟨S, [], none, Dr.self h, rfl, rfl, (fun m hm => absurd hm (by simp)), rfl⟩
  refine ⟨ns, A, hA, by simpa [upTo_len] using hl, hns, ?_⟩
  have hs : short 1 := by unfold short; omega
  have h62 : small62 (n : Int) := by unfold small62; omega
  have hwl : (w : Int) ≤ 1000000 := by omega
  have hAl := hA.len
  have g1 : ∀ o, (A ++ [o])[S.length]? = some o := fun o => by rw [← hAl]; simp
  have g4 : ∀ o, (A ++ [o]).take S.length = A := fun o => by rw [← hAl]; simp
  have s1 : (sParN 3 4 (nLst esNil) (eBin pShl (eLit (.int 1)) (eVar 1))) [some (.r i), some (.d (.int w)), some (.d (.int n)), none, none, none] S = some (.nx [some (.r i), some (.d (.int w)), some (.d (.int n)), some (.r S.length), some (.d (.int (2 ^ w))), none] (S ++ [.lst []])) := by
    simp [hs, hwl, sz_le]
  have s2 : (sFor (wRng1 (eVar 2)) (gVar 5) (sDo (eApp (eVar 3) (eBin pIx (eCa dispL (esCons (eLit (.int 0)) (esCons (eLit (.int 1)) (esCons (eLit (.int 0)) (esCons (eLit (.int 1)) (esCons (eBin pMod (eLit (.int 2)) (eVar 4)) (esCons (eBin pSub (eVar 4) (eLit (.int 1))) (esCons (eBin pDiv (eVar 4) (eLit (.int 2))) (esCons (eCall f__law_draw (esCons (eVar 0) (esCons (eVar 4) esNil))) esNil))))))))) (eCall f__law_draw (esCons (eVar 0) (esCons (eLit (.int 8)) esNil))))))) [some (.r i), some (.d (.int w)), some (.d (.int n)), some (.r S.length), some (.d (.int (2 ^ w))), none] (S ++ [.lst []]) = some (.nx [some (.r i), some (.d (.int w)), some (.d (.int n)), some (.r S.length), some (.d (.int (2 ^ w))), x] (A ++ [.lst (ns.map .int)])) := by
    rw [show ∀ (b : Sm) σ S, sFor (wRng1 (eVar 2)) (gVar 5) b σ S = Sm.bnd ((wRng1 (eVar 2)) σ S) fun wk S1 => forGo wk.own (gVar 5) b wk.ds σ S1 from fun _ _ _ => rfl]
    rw [show (wRng1 (eVar 2)) [some (.r i), some (.d (.int w)), some (.d (.int n)), some (.r S.length), some (.d (.int (2 ^ w))), none] (S ++ [.lst []]) = some (.ok ⟨upTo 0 n, none⟩ (S ++ [.lst []])) by simp [h62]]
    exact e
  have hr : m__law_row [some (.r i), some (.d (.int w)), some (.d (.int n)), none, none, none] S = some (.rt (.d (tupI ns)) (A ++ [.lst (ns.map .int)])) := by
    unfold m__law_row
    rw [seq_nx s1, seq_nx s2]
    simp [g1, tupI]
  simp [f__law_row, hr, g4]
end T
set_option maxRecDepth 100000
set_option maxHeartbeats 4000000
namespace T
open PySem PySem.Spec PyProof.Rows L2 Z
/-- a comprehension over numbers -/
theorem cmp_ints {g : Tg} {e : Ex} {σ0 : Sg} {S : Sto} (f : Int → Int) (ns : List Int) (hz : ns.length ≤ sizeLine)
    (h : ∀ n ∈ ns, ∃ σ1, g (.int n) σ0 = some σ1 ∧ e σ1 S = some (.ok (.d (.int (f n))) S)) : cmpGo none g tTrue e σ0 (ns.map .int) [] S = some (S, (ns.map f).map .int) := by
  have key := cmpGo_map (g := g) (e := e) (σ0 := σ0) (S := S) (fun d => match d with | .int n => .int (f n) | d => d) (ns.map .int) [] (fun d hd => by
    obtain ⟨n, hn, rfl⟩ := List.mem_map.mp hd
    exact h n hn) (by simpa using hz)
  rw [key]
  simp
/-- a comprehension over items, each a yes -/
theorem cmp_yes {g : Tg} {e : Ex} {σ0 : Sg} {S : Sto} (ds : List PyData) (hz : ds.length ≤ sizeLine)
    (h : ∀ d ∈ ds, ∃ σ1, g d σ0 = some σ1 ∧ e σ1 S = some (.ok (.d (.bool true)) S)) : cmpGo none g tTrue e σ0 ds [] S = some (S, List.replicate ds.length (.bool true)) := by
  rw [cmpGo_map (fun _ => .bool true) ds [] h (by simpa using hz)]
  simp [List.map_const']
theorem boolsD_rep (n : Nat) : boolsD (List.replicate n (.bool true)) = some (List.replicate n true) := by
  induction n with
  | zero => rfl
  | succ n ih => simp [List.replicate_succ, boolsD, ih]
/-- a comprehension over pairs of numbers -/
theorem cmp_zip {g : Tg} {e : Ex} {σ0 : Sg} {S : Sto} (f : Int → Int → Int) : ∀ (ns ms : List Int) (acc : List PyData), acc.length + ns.length ≤ sizeLine →
    (∀ n ∈ ns, ∀ m ∈ ms, ∃ σ1, g (.tuple [.int n, .int m]) σ0 = some σ1 ∧ e σ1 S = some (.ok (.d (.int (f n m))) S)) → cmpGo none g tTrue e σ0 (zipD (ns.map .int) (ms.map .int)) acc S = some (S, acc ++ (List.zipWith f ns ms).map .int)
  | [], ms, acc, _, _ => by simp [zipD, cmpGo, gdOk]
  | n :: ns, [], acc, _, _ => by simp [zipD, cmpGo, gdOk]
  | n :: ns, m :: ms, acc, hz, h => by
    obtain ⟨σ1, e1, e2⟩ := h n List.mem_cons_self m List.mem_cons_self
    have ih := cmp_zip f ns ms (acc ++ [.int (f n m)]) (by simp at hz ⊢; omega) fun n' a m' b => h n' (List.mem_cons_of_mem _ a) m' (List.mem_cons_of_mem _ b)
    have hlt : acc.length < sizeLine := by simp at hz; omega
    simp [zipD, cmpGo, gdOk, e1, e2, hlt, ih]
theorem intsD_map (ns : List Int) : intsD (ns.map .int) = some ns := by
  induction ns with
  | nil => rfl
  | cons n ns ih => simp [intsD, ih]
theorem intsD_zip (f : Int → Int → Int) (ns ms : List Int) : intsD (List.zipWith (fun x y => PyData.int (f x y)) ns ms) = some (List.zipWith f ns ms) := by
  rw [← intsD_map, List.map_zipWith]
theorem boolsD_map (ns : List Bool) : boolsD (ns.map .bool) = some ns := by
  induction ns with
  | nil => rfl
  | cons n ns ih => simp [boolsD, ih]
theorem pow_w {w : Nat} (hw2 : w ≤ 16) : (0 : Int) < 2 ^ w ∧ (2 : Int) ^ w ≤ 65536 := by
  have h1 : (2 : Nat) ^ w ≤ 2 ^ 16 := Nat.pow_le_pow_right (by omega) hw2
  have h2 : ((2 ^ w : Nat) : Int) = 2 ^ w := by rw [Int.natCast_pow]; rfl
  have h3 : 0 < (2 : Nat) ^ w := Nat.pow_pos (by omega)
  omega
/-! ## what the text itself computes -/
def addW (w : Nat) (ns ms : List Int) : List Int := List.zipWith (fun x y => (x + y) % 2 ^ w) ns ms
def mulW (w : Nat) (ns : List Int) (f : Int) : List Int := ns.map fun x => f * x % 2 ^ w
def dotW (w : Nat) (ns ms : List Int) : Int := (List.zipWith (fun x y => x * y) ns ms).sum % 2 ^ w
theorem law_sum {S : Sto} {w : Nat} {ns ms : List Int} (hw2 : w ≤ 16) (hz : ns.length ≤ 40) : f__law_sum [.d (.int w), .d (tupI ns), .d (tupI ms)] S = some (.ok (.d (tupI (addW w ns ms))) S) := by
  have hs : short 1 := by unfold short; omega
  have hwl : (w : Int) ≤ 1000000 := by omega
  have hp := (pow_w hw2).1
  have hc : ∀ σ0 : Sg, σ0[0]? = some (some (.d (.int w))) → σ0.length = 5 → cmpGo none (gPair (gVar 3) (gVar 4)) tTrue (eBin pMod (eBin pPlus (eVar 3) (eVar 4)) (eBin pShl (eLit (.int 1)) (eVar 0))) σ0 (zipD (ns.map .int) (ms.map .int)) [] S = some (S, [] ++ (addW w ns ms).map .int) := fun σ0 h0 h5 =>
    cmp_zip (fun x y => (x + y) % 2 ^ w) ns ms [] (by have := sz_le (n := 40) (by omega); simp; omega) fun n _ m _ => ⟨_, by simp; rfl, by
      match σ0, h5 with
      | [a, b, c, d, e], _ =>
        simp at h0
        subst h0
        simp [hs, hwl, hp]⟩
  simp [f__law_sum, m__law_sum, tupI, hc]
theorem law_many {S : Sto} {w : Nat} {ns : List Int} {f : Int} (hw2 : w ≤ 16) (hz : ns.length ≤ 40) (hf : short f) : f__law_many [.d (.int w), .d (tupI ns), .d (.int f)] S = some (.ok (.d (tupI (mulW w ns f))) S) := by
  have hs : short 1 := by unfold short; omega
  have hwl : (w : Int) ≤ 1000000 := by omega
  have hp := (pow_w hw2).1
  have hc := cmp_ints (g := gVar 3) (e := (eBin pMod (eBin pTimes (eVar 2) (eVar 3)) (eBin pShl (eLit (.int 1)) (eVar 0)))) (σ0 := [some (.d (.int w)), some (.d (tupI ns)), some (.d (.int f)), none]) (S := S) (fun x => f * x % 2 ^ w) ns (sz_le (by omega)) fun n _ => ⟨_, rfl, by simp [hs, hwl, hp, hf]⟩
  simp only [tupI] at hc
  simp [f__law_many, m__law_many, tupI, hc, mulW]
theorem law_dot {S : Sto} {w : Nat} {ns ms : List Int} (hw2 : w ≤ 16) (hz : ns.length ≤ 40) (hs1 : ∀ n ∈ ns, short n) : f__law_dot [.d (.int w), .d (tupI ns), .d (tupI ms)] S = some (.ok (.d (.int (dotW w ns ms))) S) := by
  have hs : short 1 := by unfold short; omega
  have hwl : (w : Int) ≤ 1000000 := by omega
  have hp := (pow_w hw2).1
  have hc := cmp_zip (g := gPair (gVar 3) (gVar 4)) (e := (eBin pTimes (eVar 3) (eVar 4))) (σ0 := [some (.d (.int w)), some (.d (tupI ns)), some (.d (tupI ms)), none, none]) (S := S) (fun x y => x * y) ns ms [] (by have := sz_le (n := 40) (by omega); simp; omega) fun n hn m _ => ⟨_, rfl, by simp [hs1 n hn]⟩
  simp only [tupI] at hc
  simp only [List.nil_append] at hc
  simp [f__law_dot, m__law_dot, tupI, hc, dotW, intsD_zip, hs, hwl, hp]
/-! ## the program's own -/
theorem shl1 {w : Nat} : (1 : Int) * 2 ^ ((w : Int).toNat) = 2 ^ w := by simp
theorem mask_eq {x : Int} {w : Nat} (hx : 0 ≤ x) : Builtin.bitAnd x (2 ^ w - 1) = x % 2 ^ w := Bits.bitAnd_mask w hx
theorem p_added {S : Sto} {w : Nat} {ns ms : List Int} (hw2 : w ≤ 16) (hz : ns.length ≤ 40) (h1 : wordsW w ns) (h2 : wordsW w ms) : f_added [.d (.int w), .d (tupI ns), .d (tupI ms)] S = some (.ok (.d (tupI (addW w ns ms))) S) := by
  have hs : short 1 := by unfold short; omega
  have hwl : (w : Int) ≤ 1000000 := by omega
  have hc := cmp_zip (g := gPair (gVar 4) (gVar 5)) (e := (eBin pAnd (eBin pPlus (eVar 4) (eVar 5)) (eVar 3))) (σ0 := [some (.d (.int w)), some (.d (tupI ns)), some (.d (tupI ms)), some (.d (.int (2 ^ w - 1))), none, none]) (S := S) (fun x y => (x + y) % 2 ^ w) ns ms [] (by have := sz_le (n := 40) (by omega); simp; omega) fun n hn m hm => ⟨_, rfl, by
    have := mask_eq (x := n + m) (w := w) (by have := h1 n hn; have := h2 m hm; omega)
    simp [this]⟩
  simp only [tupI, List.nil_append] at hc
  simp [f_added, m_added, tupI, hc, addW, hs, hwl]
theorem p_multiplied {S : Sto} {w : Nat} {ns : List Int} {f : Int} (hw2 : w ≤ 16) (hz : ns.length ≤ 40) (h1 : wordsW w ns) (hf0 : 0 ≤ f) (hf : short f) : f_multiplied [.d (.int w), .d (tupI ns), .d (.int f)] S = some (.ok (.d (tupI (mulW w ns f))) S) := by
  have hs : short 1 := by unfold short; omega
  have hwl : (w : Int) ≤ 1000000 := by omega
  have hc := cmp_ints (g := gVar 4) (e := (eBin pAnd (eBin pTimes (eVar 4) (eVar 2)) (eVar 3))) (σ0 := [some (.d (.int w)), some (.d (tupI ns)), some (.d (.int f)), some (.d (.int (2 ^ w - 1))), none]) (S := S) (fun x => f * x % 2 ^ w) ns (sz_le (by omega)) fun n hn => ⟨_, rfl, by
    have := mask_eq (x := n * f) (w := w) (Int.mul_nonneg (h1 n hn).1 hf0)
    rw [Int.mul_comm f n]
    simp [this, hf]⟩
  simp only [tupI, List.nil_append] at hc
  simp [f_multiplied, m_multiplied, tupI, hc, mulW, hs, hwl]
theorem sum_nn : ∀ {ns : List Int}, (∀ n ∈ ns, 0 ≤ n) → 0 ≤ ns.sum
  | [], _ => by simp
  | n :: ns, h => by
    have h1 := h n List.mem_cons_self
    have h2 := sum_nn fun m hm => h m (List.mem_cons_of_mem _ hm)
    simp only [List.sum_cons]
    omega
theorem zip_nn : ∀ {ns ms : List Int}, (∀ n ∈ ns, 0 ≤ n) → (∀ n ∈ ms, 0 ≤ n) → ∀ n ∈ List.zipWith (fun x y => x * y) ns ms, 0 ≤ n
  | [], _, _, _, n, h => by simp at h
  | _ :: _, [], _, _, n, h => by simp at h
  | x :: xs, y :: ys, h1, h2, n, h => by
    simp only [List.zipWith_cons_cons, List.mem_cons] at h
    rcases h with rfl | h
    · exact Int.mul_nonneg (h1 x List.mem_cons_self) (h2 y List.mem_cons_self)
    · exact zip_nn (fun m hm => h1 m (List.mem_cons_of_mem _ hm)) (fun m hm => h2 m (List.mem_cons_of_mem _ hm)) n h
theorem wshort {w : Nat} {ns : List Int} (hw2 : w ≤ 16) (h : wordsW w ns) : ∀ n ∈ ns, short n := fun n hn => by
  have := h n hn
  have := (pow_w hw2).2
  unfold short
  omega
theorem p_dot {S : Sto} {w : Nat} {ns ms : List Int} (hw2 : w ≤ 16) (hz : ns.length ≤ 40) (h1 : wordsW w ns) (h2 : wordsW w ms) : f_dot [.d (.int w), .d (tupI ns), .d (tupI ms)] S = some (.ok (.d (.int (dotW w ns ms))) S) := by
  have hs : short 1 := by unfold short; omega
  have hwl : (w : Int) ≤ 1000000 := by omega
  have hs1 := wshort hw2 h1
  have hc := cmp_zip (g := gPair (gVar 4) (gVar 5)) (e := (eBin pTimes (eVar 4) (eVar 5))) (σ0 := [some (.d (.int w)), some (.d (tupI ns)), some (.d (tupI ms)), some (.d (.int (2 ^ w - 1))), none, none]) (S := S) (fun x y => x * y) ns ms [] (by have := sz_le (n := 40) (by omega); simp; omega) fun n hn m _ => ⟨_, rfl, by simp [hs1 n hn]⟩
  have hm := mask_eq (w := w) (sum_nn (zip_nn (fun n hn => (h1 n hn).1) (fun n hn => (h2 n hn).1)))
  simp only [tupI, List.nil_append] at hc
  simp [f_dot, m_dot, tupI, hc, dotW, intsD_zip, hs, hwl, hm]
/-! ### what is asked of the arguments -/
theorem p_need_width {S : Sto} {w : Nat} (hw : 1 ≤ w) (hw2 : w ≤ 16) : f_need_width [.d (.int w)] S = some (.ok (.d .none) S) := by
  have h1 : (1 : Int) ≤ w := by omega
  have h2 : (w : Int) ≤ 16 := by omega
  simp [f_need_width, m_need_width, f_is_width, m_is_width, f_fits_bounds, m_fits_bounds, h1, h2]
theorem p_fits_size {S : Sto} {n : Nat} (hn : 1 ≤ n) (hn2 : n ≤ 40) : f_fits_size [.d (.int n)] S = some (.ok (.d (.bool true)) S) := by
  have h1 : (1 : Int) ≤ n := by omega
  have h2 : (n : Int) ≤ 40 := by omega
  simp [f_fits_size, m_fits_size, f_fits_bounds, m_fits_bounds, h1, h2]
theorem p_need_size {S : Sto} {n : Nat} (hn : 1 ≤ n) (hn2 : n ≤ 40) : f_need_size [.d (.int n)] S = some (.ok (.d .none) S) := by
  simp [f_need_size, m_need_size, p_fits_size hn hn2]
theorem p_fits_word {S : Sto} {w : Nat} {x : Int} (hw2 : w ≤ 16) (h : 0 ≤ x ∧ x < 2 ^ w) : f_fits_word [.d (.int w), .d (.int x)] S = some (.ok (.d (.bool true)) S) := by
  have hs : short 1 := by unfold short; omega
  have hwl : (w : Int) ≤ 1000000 := by omega
  have h2 : x ≤ 2 ^ w - 1 := by omega
  simp [f_fits_word, m_fits_word, f_fits_bounds, m_fits_bounds, h.1, h2, hs, hwl]
theorem p_need_word {S : Sto} {w : Nat} {x : Int} (hw2 : w ≤ 16) (h : 0 ≤ x ∧ x < 2 ^ w) : f_need_word [.d (.int w), .d (.int x)] S = some (.ok (.d .none) S) := by
  simp [f_need_word, m_need_word, p_fits_word hw2 h]
theorem p_need_vector {S : Sto} {w : Nat} {ns : List Int} (hw2 : w ≤ 16) (hz : ns.length ≤ 40) (h : wordsW w ns) : f_need_vector [.d (.int w), .d (.int ns.length), .d (tupI ns)] S = some (.ok (.d .none) S) := by
  have hc := cmp_yes (g := gVar 3) (e := (eCall f_fits_word (esCons (eVar 0) (esCons (eVar 3) esNil)))) (σ0 := [some (.d (.int w)), some (.d (.int ns.length)), some (.d (tupI ns)), none]) (S := S) (ns.map .int) (by simpa using sz_le (by omega)) fun d hd => by
    obtain ⟨n, hn, rfl⟩ := List.mem_map.mp hd
    exact ⟨_, rfl, by simp [p_fits_word hw2 (h n hn)]⟩
  simp only [tupI, List.length_map] at hc
  simp [f_need_vector, m_need_vector, f_fits_vector, m_fits_vector, f_fits_words, m_fits_words, tupI, hc, boolsD_rep, okD_int, PyData.eqv]
end T
set_option maxRecDepth 100000
set_option maxHeartbeats 4000000
namespace T
open PySem PySem.Spec PyProof.Rows L2 Z
theorem addW_len {w : Nat} {ns ms : List Int} (h : ns.length = ms.length) : (addW w ns ms).length = ns.length := by simp [addW, h]
theorem addW_words {w : Nat} (hw2 : w ≤ 16) : ∀ {ns ms : List Int}, wordsW w (addW w ns ms)
  | [], ms => by intro n h; simp [addW] at h
  | _ :: _, [] => by intro n h; simp [addW] at h
  | x :: xs, y :: ys => by
    intro n h
    have hp := (pow_w hw2).1
    simp only [addW, List.zipWith_cons_cons, List.mem_cons] at h
    rcases h with rfl | h
    · exact ⟨Int.emod_nonneg _ (by omega), Int.emod_lt_of_pos _ hp⟩
    · exact addW_words hw2 (ns := xs) (ms := ys) n h
theorem mulW_words {w : Nat} (hw2 : w ≤ 16) {ns : List Int} {f : Int} : wordsW w (mulW w ns f) := by
  intro n h
  have hp := (pow_w hw2).1
  obtain ⟨x, _, rfl⟩ := List.mem_map.mp h
  exact ⟨Int.emod_nonneg _ (by omega), Int.emod_lt_of_pos _ hp⟩
theorem mulW_len {w : Nat} {ns : List Int} {f : Int} : (mulW w ns f).length = ns.length := by simp [mulW]
/-- vectors of n words of width w -/
structure Vec (w n : Nat) (ns : List Int) : Prop where
  len : ns.length = n
  words : wordsW w ns
theorem Vec.add {w n : Nat} {ns ms : List Int} (hw2 : w ≤ 16) (h : Vec w n ns) (h2 : Vec w n ms) : Vec w n (addW w ns ms) := ⟨by rw [addW_len (by rw [h.len, h2.len]), h.len], addW_words hw2⟩
theorem Vec.mul {w n : Nat} {ns : List Int} {f : Int} (hw2 : w ≤ 16) (h : Vec w n ns) : Vec w n (mulW w ns f) := ⟨by rw [mulW_len, h.len], mulW_words hw2⟩
theorem Vec.zero {w n : Nat} (hw2 : w ≤ 16) : Vec w n (List.replicate n 0) := ⟨by simp, fun x hx => by
  have := (pow_w hw2).1
  cases (List.mem_replicate.mp hx).2
  omega⟩
theorem Vec.tail {w n : Nat} {x : Int} {ns : List Int} (h : Vec w n (x :: ns)) : wordsW w ns := fun m hm => h.words m (List.mem_cons_of_mem _ hm)
/-- the sum of vectors -/
def sumW (w n : Nat) (vs : List (List Int)) : List Int := vs.foldl (addW w) (List.replicate n 0)
theorem p_need_vec {S : Sto} {w n : Nat} {ns : List Int} (hw2 : w ≤ 16) (hn2 : n ≤ 40) (h : Vec w n ns) : f_need_vector [.d (.int w), .d (.int n), .d (tupI ns)] S = some (.ok (.d .none) S) := by
  have := p_need_vector (S := S) hw2 (by have := h.len; omega) h.words
  rwa [h.len] at this
theorem p_need_vectors {S : Sto} {w n : Nat} {vs : List (List Int)} (hw2 : w ≤ 16) (hn2 : n ≤ 40) (h : ∀ v ∈ vs, Vec w n v) : f_need_vectors [.d (.int w), .d (.int n), .d (.tuple (vs.map tupI))] S = some (.ok (.d .none) S) := by
  obtain ⟨σ', S', e, rfl, x, rfl⟩ := forGo_inv (g := gVar 3) (body := (sDo (eCall f_need_vector (esCons (eVar 0) (esCons (eVar 1) (esCons (eVar 3) esNil))))))
    (fun j σ T => T = S ∧ ∃ x, σ = [some (.d (.int w)), some (.d (.int n)), some (.d (.tuple (vs.map tupI))), x]) (vs.map tupI) 0 (by
      rintro j d σ T hd ⟨rfl, x, rfl⟩
      obtain ⟨v, hv, rfl⟩ := List.mem_map.mp (List.mem_of_getElem? hd)
      refine ⟨_, rfl, [some (.d (.int w)), some (.d (.int n)), some (.d (.tuple (vs.map tupI))), some (.d (tupI v))], T, ?_, rfl, _, rfl⟩
      simp [p_need_vec hw2 hn2 (h v hv)])
    [some (.d (.int w)), some (.d (.int n)), some (.d (.tuple (vs.map tupI))), none] S ⟨rfl, _, rfl⟩
  simp [f_need_vectors, m_need_vectors, e]
theorem tup_rep (n : Nat) (a : Int) : PyData.tuple (List.replicate n (PyData.int a)) = tupI (List.replicate n a) := by simp [tupI]
theorem p_vector_sum {S : Sto} {w n : Nat} (hw : 1 ≤ w) (hw2 : w ≤ 16) (hn : 1 ≤ n) (hn2 : n ≤ 40) (vs : List (List Int)) (hv : vs.length ≤ 1000) (h : ∀ v ∈ vs, Vec w n v) :
    f_vector_sum (.d (.int w) :: .d (.int n) :: vs.map fun v => .d (tupI v)) S = some (.ok (.d (tupI (sumW w n vs))) S) := by
  obtain ⟨σ', S', e, rfl, x, rfl, hx⟩ := forGo_inv (g := gVar 4) (body := (sSet 3 (eCall f_added (esCons (eVar 0) (esCons (eVar 3) (esCons (eVar 4) esNil))))))
    (fun j σ T => T = S ∧ ∃ x, σ = [some (.d (.int w)), some (.d (.int n)), some (.d (.tuple (vs.map tupI))), some (.d (tupI (sumW w n (vs.take j)))), x] ∧ Vec w n (sumW w n (vs.take j))) (vs.map tupI) 0 (by
      rintro j d σ T hd ⟨rfl, x, rfl, hV⟩
      rw [List.getElem?_map] at hd
      cases hv : vs[j]? with
      | none => rw [hv] at hd; cases hd
      | some v =>
      rw [hv] at hd
      cases hd
      have hV2 := h v (List.mem_of_getElem? hv)
      have es : sumW w n (vs.take (0 + j + 1)) = addW w (sumW w n (vs.take (0 + j))) v := by
        simp [sumW, List.take_succ, hv, List.foldl_append]
      refine ⟨_, rfl, _, _, ?_, rfl, some (.d (tupI v)), rfl, by rw [es]; exact hV.add hw2 hV2⟩
      rw [es]
      generalize sumW w n (vs.take (0 + j)) = acc at hV ⊢
      simp [p_added hw2 (by have := hV.len; omega) hV.words hV2.words])
    [some (.d (.int w)), some (.d (.int n)), some (.d (.tuple (vs.map tupI))), some (.d (tupI (List.replicate n 0))), none] S ⟨rfl, _, rfl, Vec.zero hw2⟩
  have hd : dats (vs.map fun v => .d (tupI v)) = some (vs.map tupI) := by
    clear e hx h hv
    induction vs with
    | nil => rfl
    | cons v vs ih => simp [ih]
  have ht : sumW w n (vs.take (0 + (vs.map tupI).length)) = sumW w n vs := by simp
  rw [ht] at e
  have hz : vs.length ≤ sizeLine := sz_le hv
  have hn1000 : (n : Int) ≤ 1000 := by omega
  have hn1000' : (-1000 : Int) ≤ n := by omega
  simp [f_vector_sum, m_vector_sum, hd, hz, p_need_width hw hw2, p_need_size hn hn2, p_need_vectors hw2 hn2 h, tup_rep, hn1000, hn1000', e]
end T
set_option maxRecDepth 100000
set_option maxHeartbeats 4000000
namespace T
open PySem PySem.Spec PyProof.Rows L2 Z
theorem len_tupI (ns : List Int) : (ns.map PyData.int).length = ns.length := List.length_map _
theorem p_need_any_vector {S : Sto} {w n : Nat} {ns : List Int} (hw2 : w ≤ 16) (hn : 1 ≤ n) (hn2 : n ≤ 40) (h : Vec w n ns) : f_need_any_vector [.d (.int w), .d (tupI ns)] S = some (.ok (.d .none) S) := by
  have h1 := p_fits_size (S := S) hn hn2
  have h2 := p_need_vec (S := S) hw2 hn2 h
  simp only [tupI] at h2
  simp [f_need_any_vector, m_need_any_vector, tupI, h.len, h1, h2]
theorem p_vector_multiple {S : Sto} {w n : Nat} {ns : List Int} {f : Int} (hw : 1 ≤ w) (hw2 : w ≤ 16) (hn : 1 ≤ n) (hn2 : n ≤ 40) (h : Vec w n ns) (hf : 0 ≤ f ∧ f < 2 ^ w) : f_vector_multiple [.d (.int w), .d (tupI ns), .d (.int f)] S = some (.ok (.d (tupI (mulW w ns f))) S) := by
  have hs : short f := by
    have := (pow_w hw2).2
    unfold short
    omega
  have hl : ns.length ≤ 40 := by have := h.len; omega
  simp [f_vector_multiple, m_vector_multiple, p_need_width hw hw2, p_need_any_vector hw2 hn hn2 h, p_need_word hw2 hf, p_multiplied hw2 hl h.words hf.1 hs]
theorem p_dot_product {S : Sto} {w n : Nat} {ns ms : List Int} (hw : 1 ≤ w) (hw2 : w ≤ 16) (hn : 1 ≤ n) (hn2 : n ≤ 40) (h : Vec w n ns) (h2 : Vec w n ms) : f_dot_product [.d (.int w), .d (tupI ns), .d (tupI ms)] S = some (.ok (.d (.int (dotW w ns ms))) S) := by
  have hl : ns.length ≤ 40 := by have := h.len; omega
  have q1 := p_need_any_vector (S := S) hw2 hn hn2 h
  have q2 := p_need_vec (S := S) hw2 hn2 h2
  have q3 := p_dot (S := S) hw2 hl h.words h2.words
  simp only [tupI] at q1 q2 q3
  simp [f_dot_product, m_dot_product, tupI, p_need_width hw hw2, h.len, q1, q2, q3]
/-! ## the text's draws -/
theorem law_width {S : Sto} {i : Nat} (h : StrAt S i) : ∃ (w : Nat) (S' : Sto), 1 ≤ w ∧ w ≤ 16 ∧ Dr S i S' ∧ f__law_width [.r i] S = some (.ok (.d (.int w)) S') := by
  obtain ⟨v, S1, v0, v1, d1, e1⟩ := draw h (n := 16) (by omega) (by omega)
  obtain ⟨u, S2, u0, u1, d2, e2⟩ := draw (d1.at h.lt) (n := 8) (by omega) (by omega)
  obtain ⟨y, e3, hy⟩ := atI_in (ds := [PyData.int 1, .int 2, .int 3, .int 4, .int 8, .int 16, .int 5, .int (1 + v)]) u0 (by simpa using u1)
  have hy2 : ∃ z : Nat, y = .int z ∧ 1 ≤ z ∧ z ≤ 16 := by
    simp only [List.mem_cons, List.not_mem_nil, or_false] at hy
    rcases hy with rfl | rfl | rfl | rfl | rfl | rfl | rfl | rfl
    · exact ⟨1, rfl, by omega, by omega⟩
    · exact ⟨2, rfl, by omega, by omega⟩
    · exact ⟨3, rfl, by omega, by omega⟩
    · exact ⟨4, rfl, by omega, by omega⟩
    · exact ⟨8, rfl, by omega, by omega⟩
    · exact ⟨16, rfl, by omega, by omega⟩
    · exact ⟨5, rfl, by omega, by omega⟩
    · exact ⟨(1 + v).toNat, by congr 1; omega, by omega, by omega⟩
  obtain ⟨z, rfl, z0, z1⟩ := hy2
  have hl := (d1.trans d2).len
  exact ⟨z, S2, z0, z1, d1.trans d2, by simp [f__law_width, m__law_width, e1, e2, e3, ← hl]⟩
theorem law_size {S : Sto} {i : Nat} (h : StrAt S i) : ∃ (w : Nat) (S' : Sto), 1 ≤ w ∧ w ≤ 40 ∧ Dr S i S' ∧ f__law_size [.r i] S = some (.ok (.d (.int w)) S') := by
  obtain ⟨v, S1, v0, v1, d1, e1⟩ := draw h (n := 40) (by omega) (by omega)
  obtain ⟨u, S2, u0, u1, d2, e2⟩ := draw (d1.at h.lt) (n := 6) (by omega) (by omega)
  obtain ⟨y, e3, hy⟩ := atI_in (ds := [PyData.int 1, .int 2, .int 3, .int 2, .int 4, .int (1 + v)]) u0 (by simpa using u1)
  have hy2 : ∃ z : Nat, y = .int z ∧ 1 ≤ z ∧ z ≤ 40 := by
    simp only [List.mem_cons, List.not_mem_nil, or_false] at hy
    rcases hy with rfl | rfl | rfl | rfl | rfl | rfl
    · exact ⟨1, rfl, by omega, by omega⟩
    · exact ⟨2, rfl, by omega, by omega⟩
    · exact ⟨3, rfl, by omega, by omega⟩
    · exact ⟨2, rfl, by omega, by omega⟩
    · exact ⟨4, rfl, by omega, by omega⟩
    · exact ⟨(1 + v).toNat, by congr 1; omega, by omega, by omega⟩
  obtain ⟨z, rfl, z0, z1⟩ := hy2
  have hl := (d1.trans d2).len
  exact ⟨z, S2, z0, z1, d1.trans d2, by simp [f__law_size, m__law_size, e1, e2, e3, ← hl]⟩
theorem law_word {S : Sto} {i w : Nat} (h : StrAt S i) (hw : 1 ≤ w) (hw2 : w ≤ 16) : ∃ (x : Int) (S' : Sto), 0 ≤ x ∧ x < 2 ^ w ∧ Dr S i S' ∧ f__law_word [.r i, .d (.int w)] S = some (.ok (.d (.int x)) S') := by
  obtain ⟨ns, S1, d1, hl, hw1, e1⟩ := row h hw hw2 (n := 1) (by omega)
  match ns, hl with
  | [x], _ =>
  have := hw1 x List.mem_cons_self
  have hl := d1.len
  have e1 : f__law_row [.r i, .d (.int w), .d (.int 1)] S = some (.ok (.d (.tuple [.int x])) S1) := e1
  exact ⟨x, S1, this.1, this.2, d1, by simp [f__law_word, m__law_word, atI, ixN, e1, ← hl]⟩
/-! ## what is shown -/
theorem Vec.small {w n : Nat} {ns : List Int} (hw2 : w ≤ 16) (h : Vec w n ns) : smallN ns := fun x hx => by
  have := h.words x hx
  have := (pow_w hw2).2
  omega
theorem Vec.sh {w n : Nat} {ns : List Int} (hw2 : w ≤ 16) (hn2 : n ≤ 40) (h : Vec w n ns) : Sh (tupI ns) 1 2803 := Sh.tupI (h.small hw2) (m := 40) (by have := h.len; omega)
end T
set_option maxRecDepth 100000
set_option maxHeartbeats 4000000
namespace T
open PySem PySem.Spec PyProof.Rows L2 Z
theorem addW_comm {w : Nat} : ∀ {ns ms : List Int}, addW w ns ms = addW w ms ns
  | [], [] => rfl
  | [], _ :: _ => rfl
  | _ :: _, [] => rfl
  | x :: xs, y :: ys => by
    have := addW_comm (w := w) (ns := xs) (ms := ys)
    simp only [addW, List.zipWith_cons_cons] at this ⊢
    rw [this, Int.add_comm]
theorem addW_assoc {w : Nat} : ∀ {a b c : List Int}, addW w (addW w a b) c = addW w a (addW w b c)
  | [], _, _ => by simp [addW]
  | _ :: _, [], _ => by simp [addW]
  | _ :: _, _ :: _, [] => by simp [addW]
  | x :: xs, y :: ys, z :: zs => by
    have := addW_assoc (w := w) (a := xs) (b := ys) (c := zs)
    simp only [addW, List.zipWith_cons_cons] at this ⊢
    rw [this]
    congr 1
    rw [Int.emod_add_emod, Int.add_emod_emod, Int.add_assoc]
theorem zero_addW {w : Nat} : ∀ {a : List Int} {n : Nat}, Vec w n a → addW w (List.replicate n 0) a = a
  | [], n, h => by simp [addW]
  | x :: xs, 0, h => by have := h.len; simp at this
  | x :: xs, n + 1, h => by
    have hx := h.words x List.mem_cons_self
    have ih := zero_addW (w := w) (a := xs) (n := n) ⟨by have := h.len; simpa using this, h.tail⟩
    simp only [addW, List.replicate_succ, List.zipWith_cons_cons] at ih ⊢
    rw [ih, Int.zero_add, Int.emod_eq_of_lt hx.1 hx.2]
theorem mul7 {w : Nat} : ∀ {a : List Int}, addW w (addW w (addW w (addW w (addW w (addW w a a) a) a) a) a) a = mulW w a 7
  | [] => rfl
  | x :: xs => by
    have ih := mul7 (w := w) (a := xs)
    simp only [addW, mulW, List.zipWith_cons_cons, List.map_cons] at ih ⊢
    rw [ih]
    congr 1
    simp only [Int.emod_add_emod]
    congr 1
    omega
theorem law_sums_right {S : Sto} {w n : Nat} {a b c : List Int} (hw : 1 ≤ w) (hw2 : w ≤ 16) (hn : 1 ≤ n) (hn2 : n ≤ 40) (ha : Vec w n a) (hb : Vec w n b) (hc : Vec w n c) :
    f__law_sums_right [.d (.int w), .d (.int n), .d (tupI a), .d (tupI b), .d (tupI c)] S = some (.ok (.d (.bool true)) S) := by
  have la : a.length ≤ 40 := by have := ha.len; omega
  have vab := ha.add hw2 hb
  have lab : (addW w a b).length ≤ 40 := by have := vab.len; omega
  have vabc := vab.add hw2 hc
  have labc : (addW w (addW w a b) c).length ≤ 40 := by have := vabc.len; omega
  have k7 : short 7 := by unfold short; omega
  have v7 := ha.mul hw2 (f := 7)
  have l7 : (mulW w a 7).length ≤ 40 := by have := v7.len; omega
  have z0 := zero_addW ha
  have zc := zero_addW hc
  have ea : ∀ S, f_vector_sum [.d (.int w), .d (.int n)] S = some (.ok (.d (tupI (List.replicate n 0))) S) := fun S => p_vector_sum (S := S) hw hw2 hn hn2 [] (by simp) (by simp)
  have eb : ∀ S, f_vector_sum [.d (.int w), .d (.int n), .d (tupI a)] S = some (.ok (.d (tupI a)) S) := fun S => by
    have := p_vector_sum (S := S) hw hw2 hn hn2 [a] (by simp) (by simp [ha])
    simpa only [List.map, sumW, List.foldl, z0] using this
  have ec : ∀ S, f_vector_sum [.d (.int w), .d (.int n), .d (tupI a), .d (tupI b)] S = some (.ok (.d (tupI (addW w a b))) S) := fun S => by
    have := p_vector_sum (S := S) hw hw2 hn hn2 [a, b] (by simp) (by simp [ha, hb])
    simpa only [List.map, sumW, List.foldl, z0] using this
  have ed : ∀ S, f_vector_sum [.d (.int w), .d (.int n), .d (tupI a), .d (tupI b), .d (tupI c)] S = some (.ok (.d (tupI (addW w (addW w a b) c))) S) := fun S => by
    have := p_vector_sum (S := S) hw hw2 hn hn2 [a, b, c] (by simp) (by simp [ha, hb, hc])
    simpa only [List.map, sumW, List.foldl, z0] using this
  have ee : ∀ S, f_vector_sum [.d (.int w), .d (.int n), .d (tupI c), .d (tupI a), .d (tupI b)] S = some (.ok (.d (tupI (addW w (addW w a b) c))) S) := fun S => by
    have := p_vector_sum (S := S) hw hw2 hn hn2 [c, a, b] (by simp) (by simp [ha, hb, hc])
    have q : addW w (addW w c a) b = addW w (addW w a b) c := by rw [addW_assoc, addW_comm]
    simpa only [List.map, sumW, List.foldl, zc, q] using this
  have ef : ∀ S, f_vector_sum [.d (.int w), .d (.int n), .d (tupI a), .d (tupI b), .d (tupI c), .d (tupI a), .d (tupI b)] S = some (.ok (.d (tupI (addW w (addW w (addW w a b) c) (addW w a b)))) S) := fun S => by
    have := p_vector_sum (S := S) hw hw2 hn hn2 [a, b, c, a, b] (by simp) (by simp [ha, hb, hc])
    have q : addW w (addW w (addW w (addW w a b) c) a) b = addW w (addW w (addW w a b) c) (addW w a b) := by rw [addW_assoc]
    simpa only [List.map, sumW, List.foldl, z0, q] using this
  have eg : ∀ S, f_vector_sum [.d (.int w), .d (.int n), .d (tupI a), .d (tupI a), .d (tupI a), .d (tupI a), .d (tupI a), .d (tupI a), .d (tupI a), .d (tupI b)] S = some (.ok (.d (tupI (addW w (mulW w a 7) b))) S) := fun S => by
    have := p_vector_sum (S := S) hw hw2 hn hn2 [a, a, a, a, a, a, a, b] (by simp) (by simp [ha, hb])
    simpa only [List.map, sumW, List.foldl, z0, mul7] using this
  have v8 := v7.add hw2 hb
  have v9 := vabc.add hw2 vab
  have hR : okR (.list [tupI (List.replicate n 0), tupI a, tupI (addW w a b), tupI (addW w (addW w a b) c), tupI (addW w (addW w a b) c), tupI (addW w (addW w (addW w a b) c) (addW w a b)), tupI (addW w (mulW w a 7) b)]) :=
    (Shs.list (Shs.cons ((Vec.zero hw2).sh hw2 hn2) (Shs.cons (ha.sh hw2 hn2) (Shs.cons (vab.sh hw2 hn2) (Shs.cons (vabc.sh hw2 hn2) (Shs.cons (vabc.sh hw2 hn2) (Shs.cons (v9.sh hw2 hn2) (Shs.cons (v8.sh hw2 hn2) (Shs.nil 1 0))))))))).ok
  have hn1000 : (n : Int) ≤ 1000 := by omega
  have hn1000' : (-1000 : Int) ≤ n := by omega
  have g1 : ∀ o, (S ++ [o])[S.length]? = some o := fun o => by simp
  have g3 : ∀ o o', (S ++ [o]).set S.length o' = S ++ [o'] := fun o o' => by simp
  simp [f__law_sums_right, m__law_sums_right, law_sum hw2 la, law_sum hw2 lab, law_sum hw2 labc, law_sum hw2 l7, law_many hw2 la k7, ea, eb, ec, ed, ee, ef, eg, g1, g3, tup_rep, hn1000, hn1000', hR]
end T
set_option maxRecDepth 100000
set_option maxHeartbeats 4000000
namespace T
open PySem PySem.Spec PyProof.Rows L2 Z
/-- the sum of products -/
def dotI (ns ms : List Int) : Int := (List.zipWith (fun x y => x * y) ns ms).sum
theorem dotW_eq {w : Nat} {ns ms : List Int} : dotW w ns ms = dotI ns ms % 2 ^ w := rfl
theorem dotI_comm : ∀ {a b : List Int}, dotI a b = dotI b a
  | [], [] => rfl
  | [], _ :: _ => rfl
  | _ :: _, [] => rfl
  | x :: xs, y :: ys => by
    have := dotI_comm (a := xs) (b := ys)
    simp only [dotI, List.zipWith_cons_cons, List.sum_cons] at this ⊢
    rw [this, Int.mul_comm]
theorem dotI_lin {w : Nat} {f : Int} : ∀ {a b c : List Int}, a.length = b.length → ∃ k : Int, dotI (addW w a (mulW w b f)) c = dotI a c + f * dotI b c + 2 ^ w * k
  | [], [], c, _ => ⟨0, by simp [addW, mulW, dotI]⟩
  | x :: xs, y :: ys, [], _ => ⟨0, by simp [addW, mulW, dotI]⟩
  | x :: xs, y :: ys, z :: zs, h => by
    obtain ⟨k, hk⟩ := dotI_lin (a := xs) (b := ys) (c := zs) (f := f) (w := w) (by simpa using h)
    simp only [addW, mulW, dotI, List.map_cons, List.zipWith_cons_cons, List.sum_cons] at hk ⊢
    rw [hk]
    generalize (2 : Int) ^ w = M
    generalize (List.zipWith (fun x y => x * y) xs zs).sum = A
    generalize (List.zipWith (fun x y => x * y) ys zs).sum = B
    refine ⟨k - (f * y / M + (x + f * y % M) / M) * z, ?_⟩
    rw [Int.emod_def (x + f * y % M) M]
    have e : f * y % M = f * y - M * (f * y / M) := Int.emod_def _ _
    generalize (x + f * y % M) / M = p
    rw [e]
    generalize f * y / M = q
    simp only [Int.mul_sub, Int.sub_mul, Int.mul_add, Int.add_mul, Int.mul_assoc]
    omega
theorem dot_lin {w : Nat} {f : Int} {a b c : List Int} (h : a.length = b.length) : dotW w (addW w a (mulW w b f)) c = (dotW w a c + f * dotW w b c) % 2 ^ w := by
  obtain ⟨k, hk⟩ := dotI_lin (w := w) (f := f) (c := c) h
  rw [dotW_eq, dotW_eq, dotW_eq, hk]
  generalize (2 : Int) ^ w = M
  generalize dotI a c = A
  generalize dotI b c = B
  rw [Int.add_mul_emod_self_left, Int.emod_add_emod]
  rw [Int.emod_def B M]
  have e : A + f * (B - M * (B / M)) = A + f * B + M * (- (f * (B / M))) := by
    simp only [Int.mul_sub, Int.mul_neg, Int.mul_left_comm f M]
    omega
  rw [e, Int.add_mul_emod_self_left]
theorem dotW_in {w : Nat} (hw2 : w ≤ 16) {a b : List Int} : 0 ≤ dotW w a b ∧ dotW w a b < 2 ^ w := by
  have hp := (pow_w hw2).1
  exact ⟨Int.emod_nonneg _ (by omega), Int.emod_lt_of_pos _ hp⟩
theorem dotW_sh {w : Nat} (hw2 : w ≤ 16) {a b : List Int} : Sh (.int (dotW w a b)) 0 70 := Sh.int (by
  have := dotW_in hw2 (a := a) (b := b)
  have := (pow_w hw2).2
  omega)
theorem law_products_right {S : Sto} {i w n : Nat} {a b c : List Int} (hS : StrAt S i) (hw : 1 ≤ w) (hw2 : w ≤ 16) (hn : 1 ≤ n) (hn2 : n ≤ 40) (ha : Vec w n a) (hb : Vec w n b) (hc : Vec w n c) :
    ∃ S', Dr S i S' ∧ f__law_products_right [.r i, .d (.int w), .d (tupI a), .d (tupI b), .d (tupI c)] S = some (.ok (.d (.bool true)) S') := by
  obtain ⟨f, S', f0, f1, d1, ew⟩ := law_word hS hw hw2
  refine ⟨S', d1, ?_⟩
  have la : a.length ≤ 40 := by have := ha.len; omega
  have lb : b.length ≤ 40 := by have := hb.len; omega
  have hf : short f := by
    have := (pow_w hw2).2
    unfold short
    omega
  have vm := hb.mul hw2 (f := f)
  have vs := ha.add hw2 vm
  have ma := ha.mul hw2 (f := f)
  have ha1 := wshort hw2 ha.words
  have hb1 := wshort hw2 hb.words
  have e1 : ∀ S, f_vector_multiple [.d (.int w), .d (tupI a), .d (.int f)] S = some (.ok (.d (tupI (mulW w a f))) S) := fun S => p_vector_multiple hw hw2 hn hn2 ha ⟨f0, f1⟩
  have e2 : ∀ S, f_vector_multiple [.d (.int w), .d (tupI b), .d (.int f)] S = some (.ok (.d (tupI (mulW w b f))) S) := fun S => p_vector_multiple hw hw2 hn hn2 hb ⟨f0, f1⟩
  have e3 : ∀ S, f_dot_product [.d (.int w), .d (tupI a), .d (tupI c)] S = some (.ok (.d (.int (dotW w a c))) S) := fun S => p_dot_product hw hw2 hn hn2 ha hc
  have e4 : ∀ S, f_dot_product [.d (.int w), .d (tupI b), .d (tupI c)] S = some (.ok (.d (.int (dotW w b c))) S) := fun S => p_dot_product hw hw2 hn hn2 hb hc
  have e5 : ∀ S, f_dot_product [.d (.int w), .d (tupI (addW w a (mulW w b f))), .d (tupI c)] S = some (.ok (.d (.int (dotW w (addW w a (mulW w b f)) c))) S) := fun S => p_dot_product hw hw2 hn hn2 vs hc
  have e6 : ∀ S, f_dot_product [.d (.int w), .d (tupI c), .d (tupI a)] S = some (.ok (.d (.int (dotW w a c))) S) := fun S => by
    rw [p_dot_product hw hw2 hn hn2 hc ha, dotW_eq, dotW_eq, dotI_comm]
  have hl := dot_lin (w := w) (f := f) (c := c) (show a.length = b.length by rw [ha.len, hb.len])
  have r1 : okR (tupI (mulW w a f)) := (ma.sh hw2 hn2).ok
  have r2 : okR (tupI (mulW w b f)) := (vm.sh hw2 hn2).ok
  have r3 : okR (.list [.int (dotW w a c), .int (dotW w b c)]) := (Shs.list (Shs.cons (dotW_sh hw2) (Shs.cons (dotW_sh hw2) (Shs.nil 0 0)))).ok
  have hs : short 1 := by unfold short; omega
  have hwl : (w : Int) ≤ 1000000 := by omega
  have hp := (pow_w hw2).1
  have hlen := d1.len
  simp [f__law_products_right, m__law_products_right, ew, e1, e2, e3, e4, e5, e6, law_many hw2 la hf, law_many hw2 lb hf, law_dot hw2 la ha1, law_dot hw2 lb hb1, law_sum hw2 la, r1, r2, r3, forGo, gdOk, hs, hwl, hp, hf, hl, okD_int, PyData.eqv, atI, ixN, ← hlen]
end T
set_option maxRecDepth 100000
set_option maxHeartbeats 4000000
namespace T
open PySem PySem.Spec PyProof.Rows L2 Z
theorem rows3 {S : Sto} {i w n : Nat} {σ : Sg} (h : StrAt S i) (hw : 1 ≤ w) (hw2 : w ≤ 16) (hn2 : n ≤ 40)
    (h2 : σ[2]? = some (some (.r i))) (h3 : σ[3]? = some (some (.d (.int w)))) (h4 : σ[4]? = some (some (.d (.int n)))) :
    ∃ (a b c : List Int) (S' : Sto), Vec w n a ∧ Vec w n b ∧ Vec w n c ∧ Dr S i S' ∧
      cmpGo none (gVar 8) tTrue (eCall f__law_row (esCons (eVar 2) (esCons (eVar 3) (esCons (eVar 4) esNil)))) σ (upTo 0 3) [] S = some (S', [tupI a, tupI b, tupI c]) := by
  obtain ⟨a, S1, d1, la, wa, e1⟩ := row h hw hw2 hn2
  have s1 := d1.at h.lt
  obtain ⟨b, S2, d2, lb, wb, e2⟩ := row s1 hw hw2 hn2
  have s2 := d2.at s1.lt
  obtain ⟨c, S3, d3, lc, wc, e3⟩ := row s2 hw hw2 hn2
  refine ⟨a, b, c, S3, ⟨la, wa⟩, ⟨lb, wb⟩, ⟨lc, wc⟩, (d1.trans d2).trans d3, ?_⟩
  have eu : upTo 0 3 = [.int 0, .int 1, .int 2] := rfl
  have q2 : ∀ x, (σ.set 8 x)[2]? = some (some (.r i)) := fun x => by rw [List.getElem?_set_ne (by omega)]; exact h2
  have q3 : ∀ x, (σ.set 8 x)[3]? = some (some (.d (.int w))) := fun x => by rw [List.getElem?_set_ne (by omega)]; exact h3
  have q4 : ∀ x, (σ.set 8 x)[4]? = some (some (.d (.int n))) := fun x => by rw [List.getElem?_set_ne (by omega)]; exact h4
  simp [eu, cmpGo, gdOk, q2, q3, q4, e1, e2, e3]
noncomputable def turn : Sm :=
    (sSeq (sNew 2 (nCall f__law_stream (esCons (eVar 0) (esCons (eVar 1) esNil))))
    (sSeq (sAsg (gPair (gVar 3) (gVar 4)) (eCa dispT (esCons (eCall f__law_width (esCons (eVar 2) esNil)) (esCons (eCall f__law_size (esCons (eVar 2) esNil)) esNil))))
    (sSeq (sAsg (gTrip3 (gVar 5) (gVar 6) (gVar 7)) (eComp (wRng1 (eLit (.int 3))) (gVar 8) tTrue (eCall f__law_row (esCons (eVar 2) (esCons (eVar 3) (esCons (eVar 4) esNil)))) [8]))
    (sSeq (sSet 9 (eCa pRepr (esCons (eCa dispL (esCons (eVar 5) (esCons (eVar 6) (esCons (eVar 7) esNil)))) esNil)))
    (sSeq (sIf (tOr_ (tNt (tVal (eCall f__law_sums_right (esCons (eVar 3) (esCons (eVar 4) (esCons (eVar 5) (esCons (eVar 6) (esCons (eVar 7) esNil)))))))) (tVal (eBin pNe (eCa pRepr (esCons (eCa dispL (esCons (eVar 5) (esCons (eVar 6) (esCons (eVar 7) esNil)))) esNil)) (eVar 9)))) (sRet (eLit (.bool false))) sNil)
    (sIf (tOr_ (tNt (tVal (eCall f__law_products_right (esCons (eVar 2) (esCons (eVar 3) (esCons (eVar 5) (esCons (eVar 6) (esCons (eVar 7) esNil)))))))) (tVal (eBin pNe (eCa pRepr (esCons (eCa dispL (esCons (eVar 5) (esCons (eVar 6) (esCons (eVar 7) esNil)))) esNil)) (eVar 9)))) (sRet (eLit (.bool false))) sNil))))))
theorem law_turn {ns : List Int} {j : Nat} {x2 x3 x4 x5 x6 x7 x8 x9 x10 : Option SV} {T : Sto} : ∃ (y2 y3 y4 y5 y6 y7 y8 y9 : Option SV) (T' : Sto),
    turn
      [some (.s ns), some (.d (.int j)), x2, x3, x4, x5, x6, x7, x8, x9, x10] T = some (.nx [some (.s ns), some (.d (.int j)), y2, y3, y4, y5, y6, y7, y8, y9, x10] T') := by
  obtain ⟨a0, b0, ha0, e0⟩ := stream (ns := ns) (k := j) (S := T)
  have s0 : StrAt (T ++ [.lst [.int a0, .int b0, .int 0]]) T.length := ⟨a0, b0, 0, ha0, by simp⟩
  obtain ⟨w, T1, hw, hw2, d1, e1⟩ := law_width s0
  have s1 := d1.at s0.lt
  obtain ⟨n, T2, hn, hn2, d2, e2⟩ := law_size s1
  have s2 := d2.at s1.lt
  obtain ⟨a, b, c, T3, va, vb, vc, d3, e3⟩ := rows3 (σ := [some (.s ns), some (.d (.int j)), some (.r T.length), some (.d (.int w)), some (.d (.int n)), x5, x6, x7, none, x9, x10]) s2 hw hw2 hn2 rfl rfl rfl
  have s3 := d3.at s2.lt
  have e4 := law_sums_right (S := T3) hw hw2 hn hn2 va vb vc
  obtain ⟨T4, d4, e5⟩ := law_products_right s3 hw hw2 hn hn2 va vb vc
  have r1 : okR (.list [tupI a, tupI b, tupI c]) := (Shs.list (Shs.cons (va.sh hw2 hn2) (Shs.cons (vb.sh hw2 hn2) (Shs.cons (vc.sh hw2 hn2) (Shs.nil 1 0))))).ok
  have h62 : small62 3 := by unfold small62; omega
  refine ⟨some (.r T.length), some (.d (.int w)), some (.d (.int n)), some (.d (tupI a)), some (.d (tupI b)), some (.d (tupI c)), x8, some (.d (.str (PyData.shown (.list [tupI a, tupI b, tupI c])))), T4, ?_⟩
  simp [turn, e0, e1, e2, e3, e4, e5, r1, h62]
def rep40 (x : Int) : List Int := List.replicate 40 x
theorem vec_rep {x : Int} (h : 0 ≤ x ∧ x < 65536) : Vec 16 40 (rep40 x) := ⟨by simp [rep40], fun m hm => by
  cases (List.mem_replicate.mp hm).2
  exact h⟩
theorem law_top {σ : Sg} {S : Sto} (h : σ.length = 11) : (sSeq (sSet 10 (eBin pTimes (eCa dispT (esCons (eLit (.int 65535)) esNil)) (eLit (.int 40))))
    (sRet (eAnd (eBin pEq (eCall f_dot_product (esCons (eLit (.int 16)) (esCons (eVar 10) (esCons (eVar 10) esNil)))) (eLit (.int 40))) (eBin pEq (eCall f_vector_sum (esCons (eLit (.int 16)) (esCons (eLit (.int 40)) (esCons (eVar 10) (esCons (eVar 10) esNil))))) (eBin pTimes (eCa dispT (esCons (eLit (.int 65534)) esNil)) (eLit (.int 40))))))) σ S = some (.rt (.d (.bool true)) S) := by
  have v := vec_rep (x := 65535) (by omega)
  have e1 := p_dot_product (S := S) (w := 16) (n := 40) (by omega) (by omega) (by omega) (by omega) v v
  have e2 := p_vector_sum (S := S) (w := 16) (n := 40) (by omega) (by omega) (by omega) (by omega) [rep40 65535, rep40 65535] (by simp) (by simp [v])
  have d1 : dotW 16 (rep40 65535) (rep40 65535) = 40 := by decide +kernel
  have d2 : sumW 16 40 [rep40 65535, rep40 65535] = rep40 65534 := by decide +kernel
  rw [d1] at e1
  rw [d2] at e2
  have e1 : f_dot_product [.d (.int 16), .d (tupI (rep40 65535)), .d (tupI (rep40 65535))] S = some (.ok (.d (.int 40)) S) := e1
  have e2 : f_vector_sum [.d (.int 16), .d (.int 40), .d (tupI (rep40 65535)), .d (tupI (rep40 65535))] S = some (.ok (.d (tupI (rep40 65534))) S) := e2
  have hl : 10 < σ.length := by omega
  have hg : ∀ x, (σ.set 10 x)[10]? = some x := fun x => List.getElem?_set_self hl
  have hq : PyData.eqv (tupI (rep40 65534)) (tupI (rep40 65534)) = true := eqv_self _ (by simp only [tupI, PyData.hasDict, hasDict_ints])
  have s1 : (sSet 10 (eBin pTimes (eCa dispT (esCons (eLit (.int 65535)) esNil)) (eLit (.int 40)))) σ S = some (.nx (σ.set 10 (some (.d (tupI (rep40 65535))))) S) := by
    simp [rep40, tupI]
  rw [seq_nx s1]
  generalize hs : σ.set 10 (some (.d (tupI (rep40 65535)))) = σ1
  have hv : σ1[10]? = some (some (.d (tupI (rep40 65535)))) := by rw [← hs]; exact hg _
  have hA : (eBin pEq (eCall f_dot_product (esCons (eLit (.int 16)) (esCons (eVar 10) (esCons (eVar 10) esNil)))) (eLit (.int 40))) σ1 S = some (.ok (.d (.bool true)) S) := by
    simp [hv, e1, okD_int, PyData.eqv]
  have hC : (eCall f_vector_sum (esCons (eLit (.int 16)) (esCons (eLit (.int 40)) (esCons (eVar 10) (esCons (eVar 10) esNil))))) σ1 S = some (.ok (.d (tupI (rep40 65534))) S) := by
    simp [hv, e2]
  have hD : (eBin pTimes (eCa dispT (esCons (eLit (.int 65534)) esNil)) (eLit (.int 40))) σ1 S = some (.ok (.d (tupI (rep40 65534))) S) := by
    simp [rep40, tupI]
  have hE : pEq (.d (tupI (rep40 65534))) (.d (tupI (rep40 65534))) S = some (.d (.bool true)) := by
    simp only [tupI] at hq
    have ho := okD_tupI (rep40 65534)
    simp only [tupI] at ho
    simp [tupI, ho, hq]
  simp only [sRet, eAnd, hA, bnd_ok, if_true]
  rw [show (eBin pEq (eCall f_vector_sum (esCons (eLit (.int 16)) (esCons (eLit (.int 40)) (esCons (eVar 10) (esCons (eVar 10) esNil))))) (eBin pTimes (eCa dispT (esCons (eLit (.int 65534)) esNil)) (eLit (.int 40)))) σ1 S = some (.ok (.d (.bool true)) S) from eBin_eq hC hD hE]
  rfl
theorem law_holds (ns : List Int) : f_law [.s ns] [] = some (.ok (.d (.bool true)) []) := by
  have loop := forGo_inv (g := gVar 1) (body := turn) (fun j σ T => ∃ y1 y2 y3 y4 y5 y6 y7 y8 y9 : Option SV, σ = [some (.s ns), y1, y2, y3, y4, y5, y6, y7, y8, y9, none]) (upTo 0 (max 1 (min 10 (ns.length : Int))).toNat) 0 (by
    rintro j d σ T hd ⟨y1, y2, y3, y4, y5, y6, y7, y8, y9, rfl⟩
    obtain ⟨hj, rfl⟩ := upTo_get hd
    rw [show (0 : Int) + (j : Int) = j by omega]
    obtain ⟨z2, z3, z4, z5, z6, z7, z8, z9, T', e⟩ := law_turn (ns := ns) (j := j) (x2 := y2) (x3 := y3) (x4 := y4) (x5 := y5) (x6 := y6) (x7 := y7) (x8 := y8) (x9 := y9) (x10 := none) (T := T)
    exact ⟨_, rfl, _, _, e, _, _, _, _, _, _, _, _, _, rfl⟩)
  obtain ⟨σ', S', e, y1, y2, y3, y4, y5, y6, y7, y8, y9, rfl⟩ := loop [some (.s ns), none, none, none, none, none, none, none, none, none, none] [] ⟨_, _, _, _, _, _, _, _, _, rfl⟩
  have hm : ∀ L : Int, (if 1 < if L < 10 then L else 10 then if L < 10 then L else 10 else 1) = max 1 (min 10 L) := by
    intro L
    (repeat' split) <;> omega
  have h62 : small62 (max 1 (min 10 (ns.length : Int))) := by unfold small62; omega
  have hr : m_law [some (.s ns), none, none, none, none, none, none, none, none, none, none] [] = some (.rt (.d (.bool true)) S') := by
    unfold m_law
    rw [seq_nx (σ' := [some (.s ns), y1, y2, y3, y4, y5, y6, y7, y8, y9, none]) (S' := S') (by
      show Sm.bnd (wRng1 (eCa pMax (esCons (eLit (.int 1)) (esCons (eCa pMin (esCons (eLit (.int 10)) (esCons (eCa pLen (esCons (eVar 0) esNil)) esNil))) esNil))) [some (.s ns), none, none, none, none, none, none, none, none, none, none] []) (fun wk S1 => forGo wk.own (gVar 1) turn wk.ds [some (.s ns), none, none, none, none, none, none, none, none, none, none] S1) = _
      rw [show wRng1 (eCa pMax (esCons (eLit (.int 1)) (esCons (eCa pMin (esCons (eLit (.int 10)) (esCons (eCa pLen (esCons (eVar 0) esNil)) esNil))) esNil))) [some (.s ns), none, none, none, none, none, none, none, none, none, none] [] = some (.ok ⟨upTo 0 (max 1 (min 10 (ns.length : Int))).toNat, none⟩ []) by
        simp [hm, h62]]
      exact e)]
    exact law_top rfl
  simp [f_law, hr]
end T
set_option maxRecDepth 100000
set_option maxHeartbeats 4000000
namespace T
open PySem PySem.Spec PyProof.Rows L2 Z
theorem all_mk {P : Program} {w : World} {K : PySem.W.Frag} {h : Heap} {mg : Str → Option Value} {fa0 fa1 fa2 fa3 fa4 fa5 fa6 fa7 fa8 fa9 fa10 fa11 fa12 fa13 fa14 fa15 fa16 fa17 fa18 fa19 fa20 fa21 fa22 fa23 fa24 fa25 fa26 fa27 fa28 fa29 : Addr} (KX : K.In h) (G : h.Ns mainGlobals mg)
    {od0 an0 od1 an1 od2 an2 od3 an3 od4 an4 od5 an5 od6 an6 od7 an7 od8 an8 od9 an9 od10 an10 od11 an11 od12 an12 od13 an13 od14 an14 od15 an15 od16 an16 od17 an17 od18 an18 od19 an19 od20 an20 od21 an21 od22 an22 od23 an23 od24 an24 od25 an25 od26 an26 od27 an27 od28 an28 od29 an29 : Option Addr} {sl0 sl1 sl2 sl3 sl4 sl5 sl6 sl7 sl8 sl9 sl10 sl11 sl12 sl13 sl14 sl15 sl16 sl17 sl18 sl19 sl20 sl21 sl22 sl23 sl24 sl25 sl26 sl27 sl28 sl29 : Array (Option Value)} {oc0 kV0 dc0 pm0 cd0 ct0 oc1 kV1 dc1 pm1 cd1 ct1 oc2 kV2 dc2 pm2 cd2 ct2 oc3 kV3 dc3 pm3 cd3 ct3 oc4 kV4 dc4 pm4 cd4 ct4 oc5 kV5 dc5 pm5 cd5 ct5 oc6 kV6 dc6 pm6 cd6 ct6 oc7 kV7 dc7 pm7 cd7 ct7 oc8 kV8 dc8 pm8 cd8 ct8 oc9 kV9 dc9 pm9 cd9 ct9 oc10 kV10 dc10 pm10 cd10 ct10 oc11 kV11 dc11 pm11 cd11 ct11 oc12 kV12 dc12 pm12 cd12 ct12 oc13 kV13 dc13 pm13 cd13 ct13 oc14 kV14 dc14 pm14 cd14 ct14 oc15 kV15 dc15 pm15 cd15 ct15 oc16 kV16 dc16 pm16 cd16 ct16 oc17 kV17 dc17 pm17 cd17 ct17 oc18 kV18 dc18 pm18 cd18 ct18 oc19 kV19 dc19 pm19 cd19 ct19 oc20 kV20 dc20 pm20 cd20 ct20 oc21 kV21 dc21 pm21 cd21 ct21 oc22 kV22 dc22 pm22 cd22 ct22 oc23 kV23 dc23 pm23 cd23 ct23 oc24 kV24 dc24 pm24 cd24 ct24 oc25 kV25 dc25 pm25 cd25 ct25 oc26 kV26 dc26 pm26 cd26 ct26 oc27 kV27 dc27 pm27 cd27 ct27 oc28 kV28 dc28 pm28 cd28 ct28 oc29 kV29 dc29 pm29 cd29 ct29 : Value}
    {t_MAX_WIDTH t_MAX_SIZE : Tok} (g_MAX_WIDTH : PySem.W.nsIn K mainGlobals (Str.ofString "MAX_WIDTH") = some (some (.int 16 t_MAX_WIDTH))) (g_MAX_SIZE : PySem.W.nsIn K mainGlobals (Str.ofString "MAX_SIZE") = some (some (.int 40 t_MAX_SIZE)))
    (z_len : PySem.W.nsIn K mainGlobals "len" = some none) (z_range : PySem.W.nsIn K mainGlobals "range" = some none) (z_max : PySem.W.nsIn K mainGlobals "max" = some none) (z_min : PySem.W.nsIn K mainGlobals "min" = some none) (z_abs : PySem.W.nsIn K mainGlobals "abs" = some none) (z_int : PySem.W.nsIn K mainGlobals "int" = some none) (z_bool : PySem.W.nsIn K mainGlobals "bool" = some none) (z_str : PySem.W.nsIn K mainGlobals "str" = some none) (z_tuple : PySem.W.nsIn K mainGlobals "tuple" = some none) (z_list : PySem.W.nsIn K mainGlobals "list" = some none) (z_dict : PySem.W.nsIn K mainGlobals "dict" = some none) (z_sum : PySem.W.nsIn K mainGlobals "sum" = some none) (z_all : PySem.W.nsIn K mainGlobals "all" = some none) (z_any : PySem.W.nsIn K mainGlobals "any" = some none) (z_repr : PySem.W.nsIn K mainGlobals "repr" = some none) (z_isinstance : PySem.W.nsIn K mainGlobals "isinstance" = some none) (z_zip : PySem.W.nsIn K mainGlobals "zip" = some none) (z_enumerate : PySem.W.nsIn K mainGlobals "enumerate" = some none)
    (a0 : PySem.W.nsIn K mainGlobals (Str.ofString "fits_bounds") = some (some (.ref fa0))) (l0 : K.lookup fa0 = some ⟨oc0, od0, .func (PySem.W.fnOf (Str.ofString "fits_bounds") (Str.ofString "fits_bounds") (defArgs st_fits_bounds) (defBody st_fits_bounds) (defScope st_fits_bounds) .none kV0 dc0 pm0 an0 cd0 ct0), sl0⟩) (c0 : PySem.W.codeIn K cd0 (Str.ofString "fits_bounds") = true) (k0 : PySem.W.keepIn K (.ref fa0) = true)
    (a1 : PySem.W.nsIn K mainGlobals (Str.ofString "is_width") = some (some (.ref fa1))) (l1 : K.lookup fa1 = some ⟨oc1, od1, .func (PySem.W.fnOf (Str.ofString "is_width") (Str.ofString "is_width") (defArgs st_is_width) (defBody st_is_width) (defScope st_is_width) .none kV1 dc1 pm1 an1 cd1 ct1), sl1⟩) (c1 : PySem.W.codeIn K cd1 (Str.ofString "is_width") = true) (k1 : PySem.W.keepIn K (.ref fa1) = true)
    (a2 : PySem.W.nsIn K mainGlobals (Str.ofString "need_width") = some (some (.ref fa2))) (l2 : K.lookup fa2 = some ⟨oc2, od2, .func (PySem.W.fnOf (Str.ofString "need_width") (Str.ofString "need_width") (defArgs st_need_width) (defBody st_need_width) (defScope st_need_width) .none kV2 dc2 pm2 an2 cd2 ct2), sl2⟩) (c2 : PySem.W.codeIn K cd2 (Str.ofString "need_width") = true) (k2 : PySem.W.keepIn K (.ref fa2) = true)
    (a3 : PySem.W.nsIn K mainGlobals (Str.ofString "fits_size") = some (some (.ref fa3))) (l3 : K.lookup fa3 = some ⟨oc3, od3, .func (PySem.W.fnOf (Str.ofString "fits_size") (Str.ofString "fits_size") (defArgs st_fits_size) (defBody st_fits_size) (defScope st_fits_size) .none kV3 dc3 pm3 an3 cd3 ct3), sl3⟩) (c3 : PySem.W.codeIn K cd3 (Str.ofString "fits_size") = true) (k3 : PySem.W.keepIn K (.ref fa3) = true)
    (a4 : PySem.W.nsIn K mainGlobals (Str.ofString "need_size") = some (some (.ref fa4))) (l4 : K.lookup fa4 = some ⟨oc4, od4, .func (PySem.W.fnOf (Str.ofString "need_size") (Str.ofString "need_size") (defArgs st_need_size) (defBody st_need_size) (defScope st_need_size) .none kV4 dc4 pm4 an4 cd4 ct4), sl4⟩) (c4 : PySem.W.codeIn K cd4 (Str.ofString "need_size") = true) (k4 : PySem.W.keepIn K (.ref fa4) = true)
    (a5 : PySem.W.nsIn K mainGlobals (Str.ofString "fits_word") = some (some (.ref fa5))) (l5 : K.lookup fa5 = some ⟨oc5, od5, .func (PySem.W.fnOf (Str.ofString "fits_word") (Str.ofString "fits_word") (defArgs st_fits_word) (defBody st_fits_word) (defScope st_fits_word) .none kV5 dc5 pm5 an5 cd5 ct5), sl5⟩) (c5 : PySem.W.codeIn K cd5 (Str.ofString "fits_word") = true) (k5 : PySem.W.keepIn K (.ref fa5) = true)
    (a6 : PySem.W.nsIn K mainGlobals (Str.ofString "fits_words") = some (some (.ref fa6))) (l6 : K.lookup fa6 = some ⟨oc6, od6, .func (PySem.W.fnOf (Str.ofString "fits_words") (Str.ofString "fits_words") (defArgs st_fits_words) (defBody st_fits_words) (defScope st_fits_words) .none kV6 dc6 pm6 an6 cd6 ct6), sl6⟩) (c6 : PySem.W.codeIn K cd6 (Str.ofString "fits_words") = true) (k6 : PySem.W.keepIn K (.ref fa6) = true)
    (a7 : PySem.W.nsIn K mainGlobals (Str.ofString "fits_vector") = some (some (.ref fa7))) (l7 : K.lookup fa7 = some ⟨oc7, od7, .func (PySem.W.fnOf (Str.ofString "fits_vector") (Str.ofString "fits_vector") (defArgs st_fits_vector) (defBody st_fits_vector) (defScope st_fits_vector) .none kV7 dc7 pm7 an7 cd7 ct7), sl7⟩) (c7 : PySem.W.codeIn K cd7 (Str.ofString "fits_vector") = true) (k7 : PySem.W.keepIn K (.ref fa7) = true)
    (a8 : PySem.W.nsIn K mainGlobals (Str.ofString "need_vector") = some (some (.ref fa8))) (l8 : K.lookup fa8 = some ⟨oc8, od8, .func (PySem.W.fnOf (Str.ofString "need_vector") (Str.ofString "need_vector") (defArgs st_need_vector) (defBody st_need_vector) (defScope st_need_vector) .none kV8 dc8 pm8 an8 cd8 ct8), sl8⟩) (c8 : PySem.W.codeIn K cd8 (Str.ofString "need_vector") = true) (k8 : PySem.W.keepIn K (.ref fa8) = true)
    (a9 : PySem.W.nsIn K mainGlobals (Str.ofString "need_vectors") = some (some (.ref fa9))) (l9 : K.lookup fa9 = some ⟨oc9, od9, .func (PySem.W.fnOf (Str.ofString "need_vectors") (Str.ofString "need_vectors") (defArgs st_need_vectors) (defBody st_need_vectors) (defScope st_need_vectors) .none kV9 dc9 pm9 an9 cd9 ct9), sl9⟩) (c9 : PySem.W.codeIn K cd9 (Str.ofString "need_vectors") = true) (k9 : PySem.W.keepIn K (.ref fa9) = true)
    (a10 : PySem.W.nsIn K mainGlobals (Str.ofString "added") = some (some (.ref fa10))) (l10 : K.lookup fa10 = some ⟨oc10, od10, .func (PySem.W.fnOf (Str.ofString "added") (Str.ofString "added") (defArgs st_added) (defBody st_added) (defScope st_added) .none kV10 dc10 pm10 an10 cd10 ct10), sl10⟩) (c10 : PySem.W.codeIn K cd10 (Str.ofString "added") = true) (k10 : PySem.W.keepIn K (.ref fa10) = true)
    (a11 : PySem.W.nsIn K mainGlobals (Str.ofString "vector_sum") = some (some (.ref fa11))) (l11 : K.lookup fa11 = some ⟨oc11, od11, .func (PySem.W.fnOf (Str.ofString "vector_sum") (Str.ofString "vector_sum") (defArgs st_vector_sum) (defBody st_vector_sum) (defScope st_vector_sum) .none kV11 dc11 pm11 an11 cd11 ct11), sl11⟩) (c11 : PySem.W.codeIn K cd11 (Str.ofString "vector_sum") = true) (k11 : PySem.W.keepIn K (.ref fa11) = true)
    (a12 : PySem.W.nsIn K mainGlobals (Str.ofString "need_any_vector") = some (some (.ref fa12))) (l12 : K.lookup fa12 = some ⟨oc12, od12, .func (PySem.W.fnOf (Str.ofString "need_any_vector") (Str.ofString "need_any_vector") (defArgs st_need_any_vector) (defBody st_need_any_vector) (defScope st_need_any_vector) .none kV12 dc12 pm12 an12 cd12 ct12), sl12⟩) (c12 : PySem.W.codeIn K cd12 (Str.ofString "need_any_vector") = true) (k12 : PySem.W.keepIn K (.ref fa12) = true)
    (a13 : PySem.W.nsIn K mainGlobals (Str.ofString "need_word") = some (some (.ref fa13))) (l13 : K.lookup fa13 = some ⟨oc13, od13, .func (PySem.W.fnOf (Str.ofString "need_word") (Str.ofString "need_word") (defArgs st_need_word) (defBody st_need_word) (defScope st_need_word) .none kV13 dc13 pm13 an13 cd13 ct13), sl13⟩) (c13 : PySem.W.codeIn K cd13 (Str.ofString "need_word") = true) (k13 : PySem.W.keepIn K (.ref fa13) = true)
    (a14 : PySem.W.nsIn K mainGlobals (Str.ofString "multiplied") = some (some (.ref fa14))) (l14 : K.lookup fa14 = some ⟨oc14, od14, .func (PySem.W.fnOf (Str.ofString "multiplied") (Str.ofString "multiplied") (defArgs st_multiplied) (defBody st_multiplied) (defScope st_multiplied) .none kV14 dc14 pm14 an14 cd14 ct14), sl14⟩) (c14 : PySem.W.codeIn K cd14 (Str.ofString "multiplied") = true) (k14 : PySem.W.keepIn K (.ref fa14) = true)
    (a15 : PySem.W.nsIn K mainGlobals (Str.ofString "vector_multiple") = some (some (.ref fa15))) (l15 : K.lookup fa15 = some ⟨oc15, od15, .func (PySem.W.fnOf (Str.ofString "vector_multiple") (Str.ofString "vector_multiple") (defArgs st_vector_multiple) (defBody st_vector_multiple) (defScope st_vector_multiple) .none kV15 dc15 pm15 an15 cd15 ct15), sl15⟩) (c15 : PySem.W.codeIn K cd15 (Str.ofString "vector_multiple") = true) (k15 : PySem.W.keepIn K (.ref fa15) = true)
    (a16 : PySem.W.nsIn K mainGlobals (Str.ofString "dot") = some (some (.ref fa16))) (l16 : K.lookup fa16 = some ⟨oc16, od16, .func (PySem.W.fnOf (Str.ofString "dot") (Str.ofString "dot") (defArgs st_dot) (defBody st_dot) (defScope st_dot) .none kV16 dc16 pm16 an16 cd16 ct16), sl16⟩) (c16 : PySem.W.codeIn K cd16 (Str.ofString "dot") = true) (k16 : PySem.W.keepIn K (.ref fa16) = true)
    (a17 : PySem.W.nsIn K mainGlobals (Str.ofString "dot_product") = some (some (.ref fa17))) (l17 : K.lookup fa17 = some ⟨oc17, od17, .func (PySem.W.fnOf (Str.ofString "dot_product") (Str.ofString "dot_product") (defArgs st_dot_product) (defBody st_dot_product) (defScope st_dot_product) .none kV17 dc17 pm17 an17 cd17 ct17), sl17⟩) (c17 : PySem.W.codeIn K cd17 (Str.ofString "dot_product") = true) (k17 : PySem.W.keepIn K (.ref fa17) = true)
    (a18 : PySem.W.nsIn K mainGlobals (Str.ofString "_law_stream") = some (some (.ref fa18))) (l18 : K.lookup fa18 = some ⟨oc18, od18, .func (PySem.W.fnOf (Str.ofString "_law_stream") (Str.ofString "_law_stream") (defArgs st__law_stream) (defBody st__law_stream) (defScope st__law_stream) .none kV18 dc18 pm18 an18 cd18 ct18), sl18⟩) (c18 : PySem.W.codeIn K cd18 (Str.ofString "_law_stream") = true) (k18 : PySem.W.keepIn K (.ref fa18) = true)
    (a19 : PySem.W.nsIn K mainGlobals (Str.ofString "_law_draw") = some (some (.ref fa19))) (l19 : K.lookup fa19 = some ⟨oc19, od19, .func (PySem.W.fnOf (Str.ofString "_law_draw") (Str.ofString "_law_draw") (defArgs st__law_draw) (defBody st__law_draw) (defScope st__law_draw) .none kV19 dc19 pm19 an19 cd19 ct19), sl19⟩) (c19 : PySem.W.codeIn K cd19 (Str.ofString "_law_draw") = true) (k19 : PySem.W.keepIn K (.ref fa19) = true)
    (a20 : PySem.W.nsIn K mainGlobals (Str.ofString "_law_row") = some (some (.ref fa20))) (l20 : K.lookup fa20 = some ⟨oc20, od20, .func (PySem.W.fnOf (Str.ofString "_law_row") (Str.ofString "_law_row") (defArgs st__law_row) (defBody st__law_row) (defScope st__law_row) .none kV20 dc20 pm20 an20 cd20 ct20), sl20⟩) (c20 : PySem.W.codeIn K cd20 (Str.ofString "_law_row") = true) (k20 : PySem.W.keepIn K (.ref fa20) = true)
    (a21 : PySem.W.nsIn K mainGlobals (Str.ofString "_law_dot") = some (some (.ref fa21))) (l21 : K.lookup fa21 = some ⟨oc21, od21, .func (PySem.W.fnOf (Str.ofString "_law_dot") (Str.ofString "_law_dot") (defArgs st__law_dot) (defBody st__law_dot) (defScope st__law_dot) .none kV21 dc21 pm21 an21 cd21 ct21), sl21⟩) (c21 : PySem.W.codeIn K cd21 (Str.ofString "_law_dot") = true) (k21 : PySem.W.keepIn K (.ref fa21) = true)
    (a22 : PySem.W.nsIn K mainGlobals (Str.ofString "_law_width") = some (some (.ref fa22))) (l22 : K.lookup fa22 = some ⟨oc22, od22, .func (PySem.W.fnOf (Str.ofString "_law_width") (Str.ofString "_law_width") (defArgs st__law_width) (defBody st__law_width) (defScope st__law_width) .none kV22 dc22 pm22 an22 cd22 ct22), sl22⟩) (c22 : PySem.W.codeIn K cd22 (Str.ofString "_law_width") = true) (k22 : PySem.W.keepIn K (.ref fa22) = true)
    (a23 : PySem.W.nsIn K mainGlobals (Str.ofString "_law_size") = some (some (.ref fa23))) (l23 : K.lookup fa23 = some ⟨oc23, od23, .func (PySem.W.fnOf (Str.ofString "_law_size") (Str.ofString "_law_size") (defArgs st__law_size) (defBody st__law_size) (defScope st__law_size) .none kV23 dc23 pm23 an23 cd23 ct23), sl23⟩) (c23 : PySem.W.codeIn K cd23 (Str.ofString "_law_size") = true) (k23 : PySem.W.keepIn K (.ref fa23) = true)
    (a24 : PySem.W.nsIn K mainGlobals (Str.ofString "_law_sum") = some (some (.ref fa24))) (l24 : K.lookup fa24 = some ⟨oc24, od24, .func (PySem.W.fnOf (Str.ofString "_law_sum") (Str.ofString "_law_sum") (defArgs st__law_sum) (defBody st__law_sum) (defScope st__law_sum) .none kV24 dc24 pm24 an24 cd24 ct24), sl24⟩) (c24 : PySem.W.codeIn K cd24 (Str.ofString "_law_sum") = true) (k24 : PySem.W.keepIn K (.ref fa24) = true)
    (a25 : PySem.W.nsIn K mainGlobals (Str.ofString "_law_many") = some (some (.ref fa25))) (l25 : K.lookup fa25 = some ⟨oc25, od25, .func (PySem.W.fnOf (Str.ofString "_law_many") (Str.ofString "_law_many") (defArgs st__law_many) (defBody st__law_many) (defScope st__law_many) .none kV25 dc25 pm25 an25 cd25 ct25), sl25⟩) (c25 : PySem.W.codeIn K cd25 (Str.ofString "_law_many") = true) (k25 : PySem.W.keepIn K (.ref fa25) = true)
    (a26 : PySem.W.nsIn K mainGlobals (Str.ofString "_law_word") = some (some (.ref fa26))) (l26 : K.lookup fa26 = some ⟨oc26, od26, .func (PySem.W.fnOf (Str.ofString "_law_word") (Str.ofString "_law_word") (defArgs st__law_word) (defBody st__law_word) (defScope st__law_word) .none kV26 dc26 pm26 an26 cd26 ct26), sl26⟩) (c26 : PySem.W.codeIn K cd26 (Str.ofString "_law_word") = true) (k26 : PySem.W.keepIn K (.ref fa26) = true)
    (a27 : PySem.W.nsIn K mainGlobals (Str.ofString "_law_sums_right") = some (some (.ref fa27))) (l27 : K.lookup fa27 = some ⟨oc27, od27, .func (PySem.W.fnOf (Str.ofString "_law_sums_right") (Str.ofString "_law_sums_right") (defArgs st__law_sums_right) (defBody st__law_sums_right) (defScope st__law_sums_right) .none kV27 dc27 pm27 an27 cd27 ct27), sl27⟩) (c27 : PySem.W.codeIn K cd27 (Str.ofString "_law_sums_right") = true) (k27 : PySem.W.keepIn K (.ref fa27) = true)
    (a28 : PySem.W.nsIn K mainGlobals (Str.ofString "_law_products_right") = some (some (.ref fa28))) (l28 : K.lookup fa28 = some ⟨oc28, od28, .func (PySem.W.fnOf (Str.ofString "_law_products_right") (Str.ofString "_law_products_right") (defArgs st__law_products_right) (defBody st__law_products_right) (defScope st__law_products_right) .none kV28 dc28 pm28 an28 cd28 ct28), sl28⟩) (c28 : PySem.W.codeIn K cd28 (Str.ofString "_law_products_right") = true) (k28 : PySem.W.keepIn K (.ref fa28) = true)
    (a29 : PySem.W.nsIn K mainGlobals (Str.ofString "law") = some (some (.ref fa29))) (l29 : K.lookup fa29 = some ⟨oc29, od29, .func (PySem.W.fnOf (Str.ofString "law") (Str.ofString "law") (defArgs st_law) (defBody st_law) (defScope st_law) .none kV29 dc29 pm29 an29 cd29 ct29), sl29⟩) (c29 : PySem.W.codeIn K cd29 (Str.ofString "law") = true) (k29 : PySem.W.keepIn K (.ref fa29) = true)
    : ∀ base : Heap, K.In base → base.Ns mainGlobals mg → FnG P w K mg base 9 "law" f_law := fun base _ _ => by
  have nb : NB mg := ⟨PySem.W.mg_none_of KX G z_len, PySem.W.mg_none_of KX G z_range, PySem.W.mg_none_of KX G z_max, PySem.W.mg_none_of KX G z_min, PySem.W.mg_none_of KX G z_abs, PySem.W.mg_none_of KX G z_int, PySem.W.mg_none_of KX G z_bool, PySem.W.mg_none_of KX G z_str, PySem.W.mg_none_of KX G z_tuple, PySem.W.mg_none_of KX G z_list, PySem.W.mg_none_of KX G z_dict, PySem.W.mg_none_of KX G z_sum, PySem.W.mg_none_of KX G z_all, PySem.W.mg_none_of KX G z_any, PySem.W.mg_none_of KX G z_repr, PySem.W.mg_none_of KX G z_isinstance, PySem.W.mg_none_of KX G z_zip, PySem.W.mg_none_of KX G z_enumerate⟩
  have h_fits_bounds := ok_fits_bounds (P := P) (w := w) (base := base) nb  (fun_mk (st := st_fits_bounds) l0 c0 k0) (PySem.W.mg_of KX G a0)
  have h_is_width := ok_is_width (P := P) (w := w) (base := base) nb h_fits_bounds ⟨t_MAX_WIDTH, PySem.W.mg_of KX G g_MAX_WIDTH⟩ (fun_mk (st := st_is_width) l1 c1 k1) (PySem.W.mg_of KX G a1)
  have h_need_width := ok_need_width (P := P) (w := w) (base := base) nb h_is_width (fun_mk (st := st_need_width) l2 c2 k2) (PySem.W.mg_of KX G a2)
  have h_fits_size := ok_fits_size (P := P) (w := w) (base := base) nb h_fits_bounds ⟨t_MAX_SIZE, PySem.W.mg_of KX G g_MAX_SIZE⟩ (fun_mk (st := st_fits_size) l3 c3 k3) (PySem.W.mg_of KX G a3)
  have h_need_size := ok_need_size (P := P) (w := w) (base := base) nb h_fits_size (fun_mk (st := st_need_size) l4 c4 k4) (PySem.W.mg_of KX G a4)
  have h_fits_word := ok_fits_word (P := P) (w := w) (base := base) nb h_fits_bounds (fun_mk (st := st_fits_word) l5 c5 k5) (PySem.W.mg_of KX G a5)
  have h_fits_words := ok_fits_words (P := P) (w := w) (base := base) nb h_fits_word (fun_mk (st := st_fits_words) l6 c6 k6) (PySem.W.mg_of KX G a6)
  have h_fits_vector := ok_fits_vector (P := P) (w := w) (base := base) nb h_fits_words (fun_mk (st := st_fits_vector) l7 c7 k7) (PySem.W.mg_of KX G a7)
  have h_need_vector := ok_need_vector (P := P) (w := w) (base := base) nb h_fits_vector (fun_mk (st := st_need_vector) l8 c8 k8) (PySem.W.mg_of KX G a8)
  have h_need_vectors := ok_need_vectors (P := P) (w := w) (base := base) nb h_need_vector (fun_mk (st := st_need_vectors) l9 c9 k9) (PySem.W.mg_of KX G a9)
  have h_added := ok_added (P := P) (w := w) (base := base) nb  (fun_mk (st := st_added) l10 c10 k10) (PySem.W.mg_of KX G a10)
  have h_vector_sum := ok_vector_sum (P := P) (w := w) (base := base) nb h_need_width h_need_size h_need_vectors h_added (fun_mk (st := st_vector_sum) l11 c11 k11) (PySem.W.mg_of KX G a11)
  have h_need_any_vector := ok_need_any_vector (P := P) (w := w) (base := base) nb h_fits_size h_need_vector (fun_mk (st := st_need_any_vector) l12 c12 k12) (PySem.W.mg_of KX G a12)
  have h_need_word := ok_need_word (P := P) (w := w) (base := base) nb h_fits_word (fun_mk (st := st_need_word) l13 c13 k13) (PySem.W.mg_of KX G a13)
  have h_multiplied := ok_multiplied (P := P) (w := w) (base := base) nb  (fun_mk (st := st_multiplied) l14 c14 k14) (PySem.W.mg_of KX G a14)
  have h_vector_multiple := ok_vector_multiple (P := P) (w := w) (base := base) nb h_need_width h_need_any_vector h_need_word h_multiplied (fun_mk (st := st_vector_multiple) l15 c15 k15) (PySem.W.mg_of KX G a15)
  have h_dot := ok_dot (P := P) (w := w) (base := base) nb  (fun_mk (st := st_dot) l16 c16 k16) (PySem.W.mg_of KX G a16)
  have h_dot_product := ok_dot_product (P := P) (w := w) (base := base) nb h_need_width h_need_vector h_need_any_vector h_dot (fun_mk (st := st_dot_product) l17 c17 k17) (PySem.W.mg_of KX G a17)
  have h__law_stream := ok__law_stream (P := P) (w := w) (base := base) nb  (fun_mk (st := st__law_stream) l18 c18 k18) (PySem.W.mg_of KX G a18)
  have h__law_draw := ok__law_draw (P := P) (w := w) (base := base) nb  (fun_mk (st := st__law_draw) l19 c19 k19) (PySem.W.mg_of KX G a19)
  have h__law_row := ok__law_row (P := P) (w := w) (base := base) nb h__law_draw (fun_mk (st := st__law_row) l20 c20 k20) (PySem.W.mg_of KX G a20)
  have h__law_dot := ok__law_dot (P := P) (w := w) (base := base) nb  (fun_mk (st := st__law_dot) l21 c21 k21) (PySem.W.mg_of KX G a21)
  have h__law_width := ok__law_width (P := P) (w := w) (base := base) nb h__law_draw (fun_mk (st := st__law_width) l22 c22 k22) (PySem.W.mg_of KX G a22)
  have h__law_size := ok__law_size (P := P) (w := w) (base := base) nb h__law_draw (fun_mk (st := st__law_size) l23 c23 k23) (PySem.W.mg_of KX G a23)
  have h__law_sum := ok__law_sum (P := P) (w := w) (base := base) nb  (fun_mk (st := st__law_sum) l24 c24 k24) (PySem.W.mg_of KX G a24)
  have h__law_many := ok__law_many (P := P) (w := w) (base := base) nb  (fun_mk (st := st__law_many) l25 c25 k25) (PySem.W.mg_of KX G a25)
  have h__law_word := ok__law_word (P := P) (w := w) (base := base) nb h__law_row (fun_mk (st := st__law_word) l26 c26 k26) (PySem.W.mg_of KX G a26)
  have h__law_sums_right := ok__law_sums_right (P := P) (w := w) (base := base) nb h_vector_sum h__law_sum h__law_many (fun_mk (st := st__law_sums_right) l27 c27 k27) (PySem.W.mg_of KX G a27)
  have h__law_products_right := ok__law_products_right (P := P) (w := w) (base := base) nb h_vector_multiple h_dot_product h__law_dot h__law_sum h__law_many h__law_word (fun_mk (st := st__law_products_right) l28 c28 k28) (PySem.W.mg_of KX G a28)
  have h_law := ok_law (P := P) (w := w) (base := base) nb h_vector_sum h_dot_product h__law_stream h__law_row h__law_width h__law_size h__law_sums_right h__law_products_right (fun_mk (st := st_law) l29 c29 k29) (PySem.W.mg_of KX G a29)
  exact h_law
end T
open PySem PySem.W PyProof.Rows
set_option maxRecDepth 100000 in
set_option maxHeartbeats 0 in
theorem PySem.Challenge.cw_wordlaws_k02_sums_multiples_and_dot_prod_holds : PySem.Challenge.rw_wordlaws_k02_sums_multiples_and_dot_prod.Holds := by
  w_on; o_law; k_head; (case hw => w_witness2)
  k_fill
  refine Z.walk_g (l := PySem.Challenge.rw_wordlaws_k02_sums_multiples_and_dot_prod) (n := 63) (k := 9) (g := T.f_law) rfl (by decide) rfl rfl ⟨rfl, by decide, by decide⟩ (fun w h Y => PySem.W.kIn_of Y) ?F (fun ns _ => T.law_holds ns)
  case F =>
    intro w mg fa h KX G hmg
    refine' T.all_mk KX G ?g_MAX_WIDTH ?g_MAX_SIZE ?z_len ?z_range ?z_max ?z_min ?z_abs ?z_int ?z_bool ?z_str ?z_tuple ?z_list ?z_dict ?z_sum ?z_all ?z_any ?z_repr ?z_isinstance ?z_zip ?z_enumerate ?a0 ?l0 ?c0 ?k0 ?a1 ?l1 ?c1 ?k1 ?a2 ?l2 ?c2 ?k2 ?a3 ?l3 ?c3 ?k3 ?a4 ?l4 ?c4 ?k4 ?a5 ?l5 ?c5 ?k5 ?a6 ?l6 ?c6 ?k6 ?a7 ?l7 ?c7 ?k7 ?a8 ?l8 ?c8 ?k8 ?a9 ?l9 ?c9 ?k9 ?a10 ?l10 ?c10 ?k10 ?a11 ?l11 ?c11 ?k11 ?a12 ?l12 ?c12 ?k12 ?a13 ?l13 ?c13 ?k13 ?a14 ?l14 ?c14 ?k14 ?a15 ?l15 ?c15 ?k15 ?a16 ?l16 ?c16 ?k16 ?a17 ?l17 ?c17 ?k17 ?a18 ?l18 ?c18 ?k18 ?a19 ?l19 ?c19 ?k19 ?a20 ?l20 ?c20 ?k20 ?a21 ?l21 ?c21 ?k21 ?a22 ?l22 ?c22 ?k22 ?a23 ?l23 ?c23 ?k23 ?a24 ?l24 ?c24 ?k24 ?a25 ?l25 ?c25 ?k25 ?a26 ?l26 ?c26 ?k26 ?a27 ?l27 ?c27 ?k27 ?a28 ?l28 ?c28 ?k28 ?a29 ?l29 ?c29 ?k29
    (case g_MAX_WIDTH => k_is)
    (case g_MAX_SIZE => k_is)
    (case z_len => k_is)
    (case z_range => k_is)
    (case z_max => k_is)
    (case z_min => k_is)
    (case z_abs => k_is)
    (case z_int => k_is)
    (case z_bool => k_is)
    (case z_str => k_is)
    (case z_tuple => k_is)
    (case z_list => k_is)
    (case z_dict => k_is)
    (case z_sum => k_is)
    (case z_all => k_is)
    (case z_any => k_is)
    (case z_repr => k_is)
    (case z_isinstance => k_is)
    (case z_zip => k_is)
    (case z_enumerate => k_is)
    (case a0 => k_is)
    (case l0 => k_is)
    (case c0 => k_is)
    (case k0 => k_is)
    (case a1 => k_is)
    (case l1 => k_is)
    (case c1 => k_is)
    (case k1 => k_is)
    (case a2 => k_is)
    (case l2 => k_is)
    (case c2 => k_is)
    (case k2 => k_is)
    (case a3 => k_is)
    (case l3 => k_is)
    (case c3 => k_is)
    (case k3 => k_is)
    (case a4 => k_is)
    (case l4 => k_is)
    (case c4 => k_is)
    (case k4 => k_is)
    (case a5 => k_is)
    (case l5 => k_is)
    (case c5 => k_is)
    (case k5 => k_is)
    (case a6 => k_is)
    (case l6 => k_is)
    (case c6 => k_is)
    (case k6 => k_is)
    (case a7 => k_is)
    (case l7 => k_is)
    (case c7 => k_is)
    (case k7 => k_is)
    (case a8 => k_is)
    (case l8 => k_is)
    (case c8 => k_is)
    (case k8 => k_is)
    (case a9 => k_is)
    (case l9 => k_is)
    (case c9 => k_is)
    (case k9 => k_is)
    (case a10 => k_is)
    (case l10 => k_is)
    (case c10 => k_is)
    (case k10 => k_is)
    (case a11 => k_is)
    (case l11 => k_is)
    (case c11 => k_is)
    (case k11 => k_is)
    (case a12 => k_is)
    (case l12 => k_is)
    (case c12 => k_is)
    (case k12 => k_is)
    (case a13 => k_is)
    (case l13 => k_is)
    (case c13 => k_is)
    (case k13 => k_is)
    (case a14 => k_is)
    (case l14 => k_is)
    (case c14 => k_is)
    (case k14 => k_is)
    (case a15 => k_is)
    (case l15 => k_is)
    (case c15 => k_is)
    (case k15 => k_is)
    (case a16 => k_is)
    (case l16 => k_is)
    (case c16 => k_is)
    (case k16 => k_is)
    (case a17 => k_is)
    (case l17 => k_is)
    (case c17 => k_is)
    (case k17 => k_is)
    (case a18 => k_is)
    (case l18 => k_is)
    (case c18 => k_is)
    (case k18 => k_is)
    (case a19 => k_is)
    (case l19 => k_is)
    (case c19 => k_is)
    (case k19 => k_is)
    (case a20 => k_is)
    (case l20 => k_is)
    (case c20 => k_is)
    (case k20 => k_is)
    (case a21 => k_is)
    (case l21 => k_is)
    (case c21 => k_is)
    (case k21 => k_is)
    (case a22 => k_is)
    (case l22 => k_is)
    (case c22 => k_is)
    (case k22 => k_is)
    (case a23 => k_is)
    (case l23 => k_is)
    (case c23 => k_is)
    (case k23 => k_is)
    (case a24 => k_is)
    (case l24 => k_is)
    (case c24 => k_is)
    (case k24 => k_is)
    (case a25 => k_is)
    (case l25 => k_is)
    (case c25 => k_is)
    (case k25 => k_is)
    (case a26 => k_is)
    (case l26 => k_is)
    (case c26 => k_is)
    (case k26 => k_is)
    (case a27 => k_is)
    (case l27 => k_is)
    (case c27 => k_is)
    (case k27 => k_is)
    (case a28 => k_is)
    (case l28 => k_is)
    (case c28 => k_is)
    (case k28 => k_is)
    (case a29 => k_is)
    (case l29 => k_is)
    (case c29 => k_is)
    (case k29 => k_is)
