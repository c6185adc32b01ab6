import PyProof.Rows.All
import Wide.All
import OpenK.AllK
import Wide.FinOn
import HandS.ForMost
import HandS.Wide
import HandS.IsInst
import HandS.Deep
import HandS.Conv
import HandS.SortInts
import HandS.SetFor
import HandS.Rev
import HandS.Defaults
import HandS.Style
import HandS.Strs
import HandS.Star
import HandS.More
import HandS.Gcd
import KE.DataMinMax
import PyProof.Rows.SumGenB
import HandS.WideBits
import HandS.Zip
import KE.KDictDisplayH
import HandS.Hot
import PyProof.Rows.TupIter
import HandS.ExcCtx
import HandS.ExcInit
import HandS.ExcIs
import HandS.ExcField
import HandS.HotCalls
import KE.KExcSuper
import KE.KExcIs
import PyProof.FString4
import PySem.Challenge.RW_goesnext_k14_errors_of_rules
set_option Elab.async false
set_option linter.all false
set_option maxRecDepth 100000
set_option maxHeartbeats 4000000
/-! DL0: values as data over the hand layer: frozen data, owned cells; expressions. -/
namespace DL
open PySem PySem.Spec PyProof.Rows L2

/-! ### lists side by side -/
theorem pget {α β : Type} {R : α → β → Prop} : ∀ {xs : List α} {ys : List β} {i : Nat} {x : α}, Paired R xs ys → xs[i]? = some x → ∃ y, ys[i]? = some y ∧ R x y
  | _, _, _, _, .nil, e => by simp at e
  | _, _, 0, _, .cons r _, e => by simp at e; subst e; exact ⟨_, rfl, r⟩
  | _, _, i + 1, x, .cons _ t, e => by
    obtain ⟨u, h1, h2⟩ := pget (i := i) (x := x) t (by simpa using e)
    exact ⟨u, by simpa using h1, h2⟩
theorem pgetr {α β : Type} {R : α → β → Prop} : ∀ {xs : List α} {ys : List β} {i : Nat} {y : β}, Paired R xs ys → ys[i]? = some y → ∃ x, xs[i]? = some x ∧ R x y
  | _, _, _, _, .nil, e => by simp at e
  | _, _, 0, _, .cons r _, e => by simp at e; subst e; exact ⟨_, rfl, r⟩
  | _, _, i + 1, x, .cons _ t, e => by
    obtain ⟨u, h1, h2⟩ := pgetr (i := i) (y := x) t (by simpa using e)
    exact ⟨u, by simpa using h1, h2⟩
theorem pset {α β : Type} {R : α → β → Prop} {x : α} {y : β} (r : R x y) : ∀ {xs : List α} {ys : List β} (i : Nat), Paired R xs ys → Paired R (xs.set i x) (ys.set i y)
  | _, _, _, .nil => .nil
  | _, _, 0, .cons _ t => .cons r t
  | _, _, i + 1, .cons q t => .cons q (pset r i t)
theorem papp {α β : Type} {R : α → β → Prop} : ∀ {xs xs' : List α} {ys ys' : List β}, Paired R xs ys → Paired R xs' ys' → Paired R (xs ++ xs') (ys ++ ys')
  | _, _, _, _, .nil, s => s
  | _, _, _, _, .cons r t, s => .cons r (papp t s)
theorem ptake {α β : Type} {R : α → β → Prop} : ∀ {xs : List α} {ys : List β} (n : Nat), Paired R xs ys → Paired R (xs.take n) (ys.take n)
  | _, _, 0, _ => .nil
  | _, _, _ + 1, .nil => .nil
  | _, _, n + 1, .cons r t => .cons r (ptake n t)
theorem pdrop {α β : Type} {R : α → β → Prop} : ∀ {xs : List α} {ys : List β} (n : Nat), Paired R xs ys → Paired R (xs.drop n) (ys.drop n)
  | _, _, 0, r => r
  | _, _, _ + 1, .nil => .nil
  | _, _, n + 1, .cons _ t => pdrop n t
theorem perase {α β : Type} {R : α → β → Prop} : ∀ {xs : List α} {ys : List β} (n : Nat), Paired R xs ys → Paired R (xs.eraseIdx n) (ys.eraseIdx n)
  | _, _, _, .nil => .nil
  | _, _, 0, .cons _ t => t
  | _, _, n + 1, .cons r t => .cons r (perase n t)
theorem plen {α β : Type} {R : α → β → Prop} {xs : List α} {ys : List β} (h : Paired R xs ys) : xs.length = ys.length := h.length
theorem pmono {α β : Type} {R R' : α → β → Prop} (hm : ∀ a b, R a b → R' a b) {xs : List α} {ys : List β} (h : Paired R xs ys) : Paired R' xs ys := h.mono hm
theorem pfl {α β : Type} {R : α → β → Prop} {xs : List α} {ys : List β} (h : Paired R xs ys) : ∀ n, Paired R (List.replicate n xs).flatten (List.replicate n ys).flatten
  | 0 => .nil
  | n + 1 => by
    rw [List.replicate_succ, List.replicate_succ, List.flatten_cons, List.flatten_cons]
    exact papp h (pfl h n)

/-! ### heaps -/
theorem same_new {H : Hp} {p : Addr} {o : HO} (h : H p = none) : Same H (upd H p o) := fun a u e => by
  rw [upd_ne (ne_of_none e h)]
  exact e
theorem same_rd {H H' : Hp} {a : Addr} {u : HO} (e : Same H H') (h : Rd H a u) : Rd H' a u := by
  rcases h with h | ⟨o, h⟩
  · exact Or.inl (e a _ h)
  · exact Or.inr ⟨o, e a _ h⟩
theorem same_l {K : PySem.W.Frag} {H H' : Hp} {a : Addr} {xs : List V} (e : Same H H') (h : SqL K H a xs) : SqL K H' a xs := by
  rcases h with h | h
  · exact Or.inl (same_rd e h)
  · exact Or.inr h
theorem same_t {K : PySem.W.Frag} {H H' : Hp} {a : Addr} {xs : List V} (e : Same H H') (h : SqT K H a xs) : SqT K H' a xs := by
  rcases h with h | h
  · exact Or.inl (same_rd e h)
  · exact Or.inr h

/-! ### frozen data -/
def keyD : Key → PyData
  | .inl i => .int i
  | .inr x => .str x
mutual
inductive At (K : PySem.W.Frag) (F : Hp) : V → PyData → Prop
  | non : At K F .non .none
  | bl (b : Bool) : At K F (.bl b) (.bool b)
  | int (i : Int) : At K F (.int i) (.int i)
  | str (x : Str) : At K F (.str x) (.str x)
  | lst {a : Addr} {xs : List V} {ds : List PyData} : SqL K F a xs → AtAll K F xs ds → At K F (.ref a) (.list ds)
  | tup {a : Addr} {xs : List V} {ds : List PyData} : F a = some (.tup xs) → AtAll K F xs ds → At K F (.ref a) (.tuple ds)
  | dct {a : Addr} {kvs : List (Key × V)} {ds : List PyData} : F a = some (.dK kvs) → AtAll K F (kvs.map (·.2)) ds → At K F (.ref a) (.dict ((kvs.map fun p => keyD p.1).zip ds))
inductive AtAll (K : PySem.W.Frag) (F : Hp) : List V → List PyData → Prop
  | nil : AtAll K F [] []
  | cons {v : V} {vs : List V} {d : PyData} {ds : List PyData} : At K F v d → AtAll K F vs ds → AtAll K F (v :: vs) (d :: ds)
end
section
variable {K : PySem.W.Frag} {F F' : Hp}
mutual
theorem At.mono (e : Same F F') : ∀ {v : V} {d : PyData}, At K F v d → At K F' v d
  | _, _, .non => .non
  | _, _, .bl b => .bl b
  | _, _, .int i => .int i
  | _, _, .str x => .str x
  | _, _, .lst h t => .lst (same_l e h) (AtAll.mono e t)
  | _, _, .tup h t => .tup (e _ _ h) (AtAll.mono e t)
  | _, _, .dct h t => .dct (e _ _ h) (AtAll.mono e t)
theorem AtAll.mono (e : Same F F') : ∀ {vs : List V} {ds : List PyData}, AtAll K F vs ds → AtAll K F' vs ds
  | _, _, .nil => .nil
  | _, _, .cons h t => .cons (At.mono e h) (AtAll.mono e t)
end
theorem atAll_of : ∀ {vs : List V} {ds : List PyData}, Paired (At K F) vs ds → AtAll K F vs ds
  | _, _, .nil => .nil
  | _, _, .cons h t => .cons h (atAll_of t)
theorem atAll_to : ∀ {vs : List V} {ds : List PyData}, AtAll K F vs ds → Paired (At K F) vs ds
  | _, _, .nil => .nil
  | _, _, .cons h t => .cons h (atAll_to t)
mutual
theorem At.dp : ∀ {v : V} {d : PyData}, At K F v d → d.hasDict = false → Dp K F v d
  | _, _, .non, _ => .non
  | _, _, .bl b, _ => .bl b
  | _, _, .int i, _ => .int i
  | _, _, .str x, _ => .str x
  | _, _, .lst h t, hd => .lst h (AtAll.dp t (by simpa only [PyData.hasDict] using hd))
  | _, _, .tup h t, hd => .tup (.inl (.inl h)) (AtAll.dp t (by simpa only [PyData.hasDict] using hd))
  | _, _, .dct h t, hd => by simp only [PyData.hasDict] at hd; cases hd
theorem AtAll.dp : ∀ {vs : List V} {ds : List PyData}, AtAll K F vs ds → PyData.hasDictAll ds = false → DpAll K F vs ds
  | _, _, .nil, _ => .nil
  | _, _, .cons h t, hd => by
    simp only [PyData.hasDictAll, Bool.or_eq_false_iff] at hd
    exact .cons (At.dp h hd.1) (AtAll.dp t hd.2)
end
end

/-! ### values, cells, stores -/
/-- a value: frozen data, an owned cell, any other thing -/
inductive Va where
  | d (x : PyData) | r (a : Addr) | o (v : V)
inductive Ce where
  | lst (xs : List Va) | tup (xs : List Va) | any (o : HO)
  /-- a list of which only this is known -/
  | prd (φ : List Va → Prop)
  /-- a dict, its keys tuples of ints -/
  | dtv (D : List (List Int × Va))
def dtvK (ks : List (List Int)) (vs : List V) : List (List Key × V) := (ks.map fun k => k.map Sum.inl).zip vs
abbrev Sto := List (Addr × Ce)
abbrev Env := List (Option Va)
section
variable (K : PySem.W.Frag)
def VaOk (F : Hp) : Va → V → Prop
  | .d x, v => At K F v x
  | .r a, v => v = .ref a
  | .o u, v => v = u
def CeOk (F H : Hp) (a : Addr) : Ce → Prop
  | .lst xs => ∃ vs, H a = some (.lst vs) ∧ Paired (VaOk K F) xs vs
  | .tup xs => ∃ vs, H a = some (.tup vs) ∧ Paired (VaOk K F) xs vs
  | .any o => H a = some o
  | .prd φ => ∃ xs vs, φ xs ∧ H a = some (.lst vs) ∧ Paired (VaOk K F) xs vs
  | .dtv D => ∃ vs, H a = some (.dT (dtvK (D.map (·.1)) vs)) ∧ Paired (VaOk K F) (D.map (·.2)) vs
/-- a store over its frozen part F and the heap H -/
structure Cf (S : Sto) (F H : Hp) : Prop where
  ex : Same F H
  nd : (S.map (·.1)).Nodup
  fr : ∀ p ∈ S, F p.1 = none
  ok : ∀ p ∈ S, CeOk K F H p.1 p.2
def Sl (F : Hp) (g : Option Va) (s : Option V) : Prop := match g with
  | none => True
  | some x => ∃ v, s = some v ∧ VaOk K F x v
abbrev Slots (F : Hp) (Γ : Env) (σ : L2.St) : Prop := Paired (Sl K F) Γ σ
end
section
variable {K : PySem.W.Frag} {F F' H H' : Hp} {S S' : Sto} {Γ : Env} {σ : L2.St} {x : Va} {v : V}
theorem VaOk.mono (e : Same F F') : ∀ {x : Va} {v : V}, VaOk K F x v → VaOk K F' x v
  | .d _, _, h => At.mono e h
  | .r _, _, h => h
  | .o _, _, h => h
theorem vas_mono (e : Same F F') {xs : List Va} {vs : List V} (h : Paired (VaOk K F) xs vs) : Paired (VaOk K F') xs vs := pmono (fun _ _ h => VaOk.mono e h) h
theorem Slots.mono (e : Same F F') (h : Slots K F Γ σ) : Slots K F' Γ σ := pmono (fun g s h => by
  cases g with
  | none => trivial
  | some x =>
    obtain ⟨v, e1, h1⟩ := h
    exact ⟨v, e1, VaOk.mono e h1⟩) h
theorem Slots.set (h : Slots K F Γ σ) (i : Nat) (hx : VaOk K F x v) : Slots K F (Γ.set i (some x)) (σ.set i (some v)) := pset (R := Sl K F) (x := some x) (y := some v) ⟨v, rfl, hx⟩ i h
theorem Slots.get (h : Slots K F Γ σ) {i : Nat} (e : Γ[i]? = some (some x)) : ∃ v, σ[i]? = some (some v) ∧ VaOk K F x v := by
  obtain ⟨s, e1, h1⟩ := pget h e
  obtain ⟨v, rfl, h2⟩ := h1
  exact ⟨v, e1, h2⟩
/-- what a new object leaves -/
theorem Cf.fresh (c : Cf K S F H) {p : Addr} (hp : H p = none) : p ∉ S.map (·.1) ∧ F p = none := by
  refine ⟨fun hm => ?_, ?_⟩
  · obtain ⟨q, hq, rfl⟩ := List.mem_map.mp hm
    have := c.ok q hq
    obtain ⟨a, ce⟩ := q
    cases ce with
    | lst xs =>
      obtain ⟨vs, e, _⟩ := this
      rw [hp] at e
      cases e
    | tup xs =>
      obtain ⟨vs, e, _⟩ := this
      rw [hp] at e
      cases e
    | any o =>
      have this : H a = some o := this
      rw [hp] at this
      cases this
    | prd φ =>
      obtain ⟨xs, vs, _, e, _⟩ := this
      rw [hp] at e
      cases e
    | dtv D =>
      obtain ⟨vs, e, _⟩ := this
      rw [hp] at e
      cases e
  · exact c.ex.free hp
theorem CeOk.grow {a : Addr} {c : Ce} (e : Same H H') (h : CeOk K F H a c) : CeOk K F H' a c := by
  cases c with
  | lst xs =>
    obtain ⟨vs, e1, h1⟩ := h
    exact ⟨vs, e _ _ e1, h1⟩
  | tup xs =>
    obtain ⟨vs, e1, h1⟩ := h
    exact ⟨vs, e _ _ e1, h1⟩
  | any o => exact e _ _ h
  | prd φ =>
    obtain ⟨xs, vs, f, e1, h1⟩ := h
    exact ⟨xs, vs, f, e _ _ e1, h1⟩
  | dtv D =>
    obtain ⟨vs, e1, h1⟩ := h
    exact ⟨vs, e _ _ e1, h1⟩
theorem CeOk.freeze {a : Addr} {c : Ce} (e : Same F F') (h : CeOk K F H a c) : CeOk K F' H a c := by
  cases c with
  | lst xs =>
    obtain ⟨vs, e1, h1⟩ := h
    exact ⟨vs, e1, vas_mono e h1⟩
  | tup xs =>
    obtain ⟨vs, e1, h1⟩ := h
    exact ⟨vs, e1, vas_mono e h1⟩
  | any o => exact h
  | prd φ =>
    obtain ⟨xs, vs, f, e1, h1⟩ := h
    exact ⟨xs, vs, f, e1, vas_mono e h1⟩
  | dtv D =>
    obtain ⟨vs, e1, h1⟩ := h
    exact ⟨vs, e1, vas_mono e h1⟩
theorem Cf.newL (c : Cf K S F H) {p : Addr} (hp : H p = none) {xs : List Va} {vs : List V} (h : Paired (VaOk K F) xs vs) : Cf K ((p, .lst xs) :: S) F (upd H p (.lst vs)) := by
  obtain ⟨h1, h2⟩ := c.fresh hp
  refine ⟨c.ex.trans (same_new hp), List.nodup_cons.mpr ⟨h1, c.nd⟩, fun q hq => ?_, fun q hq => ?_⟩
  · rcases List.mem_cons.mp hq with rfl | hq
    · exact h2
    · exact c.fr q hq
  · rcases List.mem_cons.mp hq with rfl | hq
    · exact ⟨vs, upd_same, h⟩
    · exact (c.ok q hq).grow (same_new hp)
theorem Cf.newT (c : Cf K S F H) {p : Addr} (hp : H p = none) {xs : List Va} {vs : List V} (h : Paired (VaOk K F) xs vs) : Cf K ((p, .tup xs) :: S) F (upd H p (.tup vs)) := by
  obtain ⟨h1, h2⟩ := c.fresh hp
  refine ⟨c.ex.trans (same_new hp), List.nodup_cons.mpr ⟨h1, c.nd⟩, fun q hq => ?_, fun q hq => ?_⟩
  · rcases List.mem_cons.mp hq with rfl | hq
    · exact h2
    · exact c.fr q hq
  · rcases List.mem_cons.mp hq with rfl | hq
    · exact ⟨vs, upd_same, h⟩
    · exact (c.ok q hq).grow (same_new hp)
theorem Cf.newO (c : Cf K S F H) {p : Addr} (hp : H p = none) (o : HO) : Cf K ((p, .any o) :: S) F (upd H p o) := by
  obtain ⟨h1, h2⟩ := c.fresh hp
  refine ⟨c.ex.trans (same_new hp), List.nodup_cons.mpr ⟨h1, c.nd⟩, fun q hq => ?_, fun q hq => ?_⟩
  · rcases List.mem_cons.mp hq with rfl | hq
    · exact h2
    · exact c.fr q hq
  · rcases List.mem_cons.mp hq with rfl | hq
    · exact upd_same
    · exact (c.ok q hq).grow (same_new hp)
/-- the store behind a store to a cell -/
inductive Upd : Sto → Addr → Ce → Ce → Sto → Prop
  | here {a : Addr} {c c' : Ce} {S : Sto} : Upd ((a, c) :: S) a c c' ((a, c') :: S)
  | there {a : Addr} {c c' : Ce} {q : Addr × Ce} {S S' : Sto} : Upd S a c c' S' → Upd (q :: S) a c c' (q :: S')
theorem Upd.mem {a : Addr} {c c' : Ce} : ∀ {S S' : Sto}, Upd S a c c' S' → (a, c) ∈ S
  | _, _, .here => List.mem_cons_self
  | _, _, .there h => List.mem_cons_of_mem _ h.mem
theorem Upd.keys {a : Addr} {c c' : Ce} : ∀ {S S' : Sto}, Upd S a c c' S' → S'.map (·.1) = S.map (·.1)
  | _, _, .here => rfl
  | _, _, .there h => by rw [List.map_cons, List.map_cons, h.keys]
theorem Upd.back {a : Addr} {c c' : Ce} {q : Addr × Ce} : ∀ {S S' : Sto}, Upd S a c c' S' → (S.map (·.1)).Nodup → q ∈ S' → q = (a, c') ∨ (q.1 ≠ a ∧ q ∈ S)
  | _, _, .here, nd, hq => by
    rcases List.mem_cons.mp hq with rfl | hq
    · exact .inl rfl
    · refine .inr ⟨fun e => ?_, List.mem_cons_of_mem _ hq⟩
      rw [List.map_cons, List.nodup_cons] at nd
      exact nd.1 (by have := List.mem_map_of_mem (f := fun (p : Addr × Ce) => p.1) hq; rw [e] at this; exact this)
  | _, _, .there h, nd, hq => by
    rw [List.map_cons, List.nodup_cons] at nd
    rcases List.mem_cons.mp hq with rfl | hq
    · exact .inr ⟨fun e => nd.1 (by have := List.mem_map_of_mem (f := (·.1)) h.mem; rw [e]; exact this), List.mem_cons_self⟩
    · rcases h.back nd.2 hq with z | ⟨z, m⟩
      · exact .inl z
      · exact .inr ⟨z, List.mem_cons_of_mem _ m⟩
theorem Cf.updL (c : Cf K S F H) {a : Addr} {xs xs' : List Va} (u : Upd S a (.lst xs) (.lst xs') S') {vs' : List V} (h : Paired (VaOk K F) xs' vs') : Cf K S' F (upd H a (.lst vs')) := by
  have fa : F a = none := c.fr _ u.mem
  refine ⟨fun b o e => ?_, ?_, fun q hq => ?_, fun q hq => ?_⟩
  · rw [upd_ne (ne_of_none e fa)]
    exact c.ex b o e
  · rw [u.keys]
    exact c.nd
  · rcases u.back c.nd hq with rfl | ⟨_, m⟩
    · exact fa
    · exact c.fr q m
  · rcases u.back c.nd hq with rfl | ⟨n, m⟩
    · exact ⟨vs', upd_same, h⟩
    · have := c.ok q m
      obtain ⟨b, ce⟩ := q
      cases ce with
      | lst ys =>
        obtain ⟨ws, e, h1⟩ := this
        exact ⟨ws, by rw [upd_ne n]; exact e, h1⟩
      | tup ys =>
        obtain ⟨ws, e, h1⟩ := this
        exact ⟨ws, by rw [upd_ne n]; exact e, h1⟩
      | any o => exact (show upd H a (.lst vs') b = some o by rw [upd_ne n]; exact this)
      | prd φ =>
        obtain ⟨ys, ws, f, e, h1⟩ := this
        exact ⟨ys, ws, f, by rw [upd_ne n]; exact e, h1⟩
      | dtv D =>
        obtain ⟨ws, e, h1⟩ := this
        exact ⟨ws, by rw [upd_ne n]; exact e, h1⟩
theorem Cf.updO (c : Cf K S F H) {a : Addr} {o o' : HO} (u : Upd S a (.any o) (.any o') S') : Cf K S' F (upd H a o') := by
  have fa : F a = none := c.fr _ u.mem
  refine ⟨fun b o e => ?_, ?_, fun q hq => ?_, fun q hq => ?_⟩
  · rw [upd_ne (ne_of_none e fa)]
    exact c.ex b o e
  · rw [u.keys]
    exact c.nd
  · rcases u.back c.nd hq with rfl | ⟨_, m⟩
    · exact fa
    · exact c.fr q m
  · rcases u.back c.nd hq with rfl | ⟨n, m⟩
    · exact upd_same
    · have := c.ok q m
      obtain ⟨b, ce⟩ := q
      cases ce with
      | lst ys =>
        obtain ⟨ws, e, h1⟩ := this
        exact ⟨ws, by rw [upd_ne n]; exact e, h1⟩
      | tup ys =>
        obtain ⟨ws, e, h1⟩ := this
        exact ⟨ws, by rw [upd_ne n]; exact e, h1⟩
      | any o => exact (show upd H a o' b = some o by rw [upd_ne n]; exact this)
      | prd φ =>
        obtain ⟨ys, ws, f, e, h1⟩ := this
        exact ⟨ys, ws, f, by rw [upd_ne n]; exact e, h1⟩
      | dtv D =>
        obtain ⟨ws, e, h1⟩ := this
        exact ⟨ws, by rw [upd_ne n]; exact e, h1⟩
theorem Cf.perm (c : Cf K S F H) (p : S.Perm S') : Cf K S' F H :=
  ⟨c.ex, (p.map (·.1)).nodup_iff.mp c.nd, fun q hq => c.fr q (p.mem_iff.mpr hq), fun q hq => c.ok q (p.mem_iff.mpr hq)⟩
theorem Cf.tail {q : Addr × Ce} (c : Cf K (q :: S) F H) : Cf K S F H :=
  ⟨c.ex, (List.nodup_cons.mp c.nd).2, fun p hp => c.fr p (List.mem_cons_of_mem _ hp), fun p hp => c.ok p (List.mem_cons_of_mem _ hp)⟩
theorem same_in {o : HO} {a : Addr} (e : Same F H) (h : H a = some o) : Same (upd F a o) H := fun b u hb => by
  by_cases hba : b = a
  · subst hba
    rw [upd_same] at hb
    rw [h]
    exact hb
  · rw [upd_ne hba] at hb
    exact e b u hb
theorem vas_d {vs : List V} : ∀ {ds : List PyData}, Paired (VaOk K F) (ds.map Va.d) vs → AtAll K F vs ds
  | [], h => by cases h; exact .nil
  | d :: ds, h => by
    cases h with
    | cons h t => exact .cons h (vas_d t)
theorem d_vas {vs : List V} : ∀ {ds : List PyData}, AtAll K F vs ds → Paired (VaOk K F) (ds.map Va.d) vs
  | [], h => by cases h; exact .nil
  | d :: ds, h => by
    cases h with
    | cons h t => exact .cons h (d_vas t)
/-- the head cell is frozen -/
theorem Cf.frzL {a : Addr} {ds : List PyData} (c : Cf K ((a, .lst (ds.map .d)) :: S) F H) : ∃ F', Same F F' ∧ Cf K S F' H ∧ At K F' (.ref a) (.list ds) := by
  obtain ⟨vs, e, h⟩ := c.ok _ List.mem_cons_self
  have fa : F a = none := c.fr _ List.mem_cons_self
  have s1 : Same F (upd F a (.lst vs)) := same_new fa
  have nd := List.nodup_cons.mp c.nd
  refine ⟨upd F a (.lst vs), s1, ⟨same_in c.ex e, nd.2, fun p hp => ?_, fun p hp => (c.ok p (List.mem_cons_of_mem _ hp)).freeze s1⟩, .lst (.inl (.inl upd_same)) ((vas_d h).mono s1)⟩
  rw [upd_ne (fun z => nd.1 (by show a ∈ _; rw [← z]; exact List.mem_map_of_mem hp))]
  exact c.fr p (List.mem_cons_of_mem _ hp)
theorem Cf.frzT {a : Addr} {ds : List PyData} (c : Cf K ((a, .tup (ds.map .d)) :: S) F H) : ∃ F', Same F F' ∧ Cf K S F' H ∧ At K F' (.ref a) (.tuple ds) := by
  obtain ⟨vs, e, h⟩ := c.ok _ List.mem_cons_self
  have fa : F a = none := c.fr _ List.mem_cons_self
  have s1 : Same F (upd F a (.tup vs)) := same_new fa
  have nd := List.nodup_cons.mp c.nd
  refine ⟨upd F a (.tup vs), s1, ⟨same_in c.ex e, nd.2, fun p hp => ?_, fun p hp => (c.ok p (List.mem_cons_of_mem _ hp)).freeze s1⟩, .tup upd_same ((vas_d h).mono s1)⟩
  rw [upd_ne (fun z => nd.1 (by show a ∈ _; rw [← z]; exact List.mem_map_of_mem hp))]
  exact c.fr p (List.mem_cons_of_mem _ hp)

/-! ### what a value shows -/
/-- x is a list of the items xs -/
inductive Lst (S : Sto) : Va → List Va → Prop
  | d (ds : List PyData) : Lst S (.d (.list ds)) (ds.map .d)
  | r {a : Addr} {xs : List Va} : (a, .lst xs) ∈ S → Lst S (.r a) xs
inductive Tpl (S : Sto) : Va → List Va → Prop
  | d (ds : List PyData) : Tpl S (.d (.tuple ds)) (ds.map .d)
  | r {a : Addr} {xs : List Va} : (a, .tup xs) ∈ S → Tpl S (.r a) xs
mutual
inductive Sees (S : Sto) : Va → PyData → Prop
  | d (x : PyData) : Sees S (.d x) x
  | l {a : Addr} {xs : List Va} {ds : List PyData} : (a, .lst xs) ∈ S → SeesAll S xs ds → Sees S (.r a) (.list ds)
  | t {a : Addr} {xs : List Va} {ds : List PyData} : (a, .tup xs) ∈ S → SeesAll S xs ds → Sees S (.r a) (.tuple ds)
inductive SeesAll (S : Sto) : List Va → List PyData → Prop
  | nil : SeesAll S [] []
  | cons {x : Va} {xs : List Va} {d : PyData} {ds : List PyData} : Sees S x d → SeesAll S xs ds → SeesAll S (x :: xs) (d :: ds)
end
theorem Lst.tl {q : Addr × Ce} {x : Va} {xs : List Va} (h : Lst S x xs) : Lst (q :: S) x xs := by
  cases h with
  | d ds => exact .d ds
  | r h => exact .r (List.mem_cons_of_mem _ h)
theorem Tpl.tl {q : Addr × Ce} {x : Va} {xs : List Va} (h : Tpl S x xs) : Tpl (q :: S) x xs := by
  cases h with
  | d ds => exact .d ds
  | r h => exact .r (List.mem_cons_of_mem _ h)
mutual
theorem Sees.sub (hs : ∀ q, q ∈ S → q ∈ S') : ∀ {x : Va} {d : PyData}, Sees S x d → Sees S' x d
  | _, _, .d x => .d x
  | _, _, .l h t => .l (hs _ h) (SeesAll.sub hs t)
  | _, _, .t h t => .t (hs _ h) (SeesAll.sub hs t)
theorem SeesAll.sub (hs : ∀ q, q ∈ S → q ∈ S') : ∀ {xs : List Va} {ds : List PyData}, SeesAll S xs ds → SeesAll S' xs ds
  | _, _, .nil => .nil
  | _, _, .cons h t => .cons (Sees.sub hs h) (SeesAll.sub hs t)
end
theorem Sees.tl {q : Addr × Ce} {x : Va} {d : PyData} (h : Sees S x d) : Sees (q :: S) x d := h.sub fun _ m => List.mem_cons_of_mem _ m
theorem seesAll_d : ∀ ds : List PyData, SeesAll S (ds.map Va.d) ds
  | [] => .nil
  | d :: ds => .cons (.d d) (seesAll_d ds)
theorem Sees.ofLst {x : Va} {ds : List PyData} (h : Lst S x (ds.map .d)) : Sees S x (.list ds) := by
  generalize e : ds.map Va.d = xs at h
  cases h with
  | d es =>
    have : ∀ xs ys : List PyData, xs.map Va.d = ys.map Va.d → xs = ys := fun xs => by
      induction xs with
      | nil => intro ys h; cases ys with
        | nil => rfl
        | cons y ys => cases h
      | cons x xs ih => intro ys h; cases ys with
        | nil => cases h
        | cons y ys =>
          rw [List.map_cons, List.map_cons, List.cons.injEq] at h
          rw [ih ys h.2, Va.d.inj h.1]
    have := this _ _ e
    subst this
    exact .d _
  | r m =>
    subst e
    exact .l m (seesAll_d ds)
theorem Sees.lst {x : Va} {ds : List PyData} (h : Sees S x (.list ds)) : ∃ xs, Lst S x xs ∧ SeesAll S xs ds := by
  cases h with
  | d => exact ⟨_, .d ds, seesAll_d ds⟩
  | l m t => exact ⟨_, .r m, t⟩
theorem Sees.tpl {x : Va} {ds : List PyData} (h : Sees S x (.tuple ds)) : ∃ xs, Tpl S x xs ∧ SeesAll S xs ds := by
  cases h with
  | d => exact ⟨_, .d ds, seesAll_d ds⟩
  | t m t => exact ⟨_, .r m, t⟩
theorem seesAll_get : ∀ {xs : List Va} {ds : List PyData} {i : Nat} {d : PyData}, SeesAll S xs ds → ds[i]? = some d → ∃ x, xs[i]? = some x ∧ Sees S x d
  | _, _, _, _, .nil, e => by simp at e
  | _, _, 0, _, .cons h _, e => by simp at e; subst e; exact ⟨_, rfl, h⟩
  | _, _, i + 1, d, .cons _ t, e => by
    obtain ⟨u, h1, h2⟩ := seesAll_get (i := i) (d := d) t (by simpa using e)
    exact ⟨u, by simpa using h1, h2⟩
theorem seesAll_len : ∀ {xs : List Va} {ds : List PyData}, SeesAll S xs ds → xs.length = ds.length
  | _, _, .nil => rfl
  | _, _, .cons _ t => by rw [List.length_cons, List.length_cons, seesAll_len t]
/-- no list, no tuple -/
def flatD : PyData → Bool
  | .none => true
  | .bool _ => true
  | .int _ => true
  | .str _ => true
  | _ => false
theorem Sees.flat {x : Va} {d : PyData} (h : Sees S x d) (hd : flatD d = true) : x = .d d := by
  cases h with
  | d => rfl
  | l _ _ => cases hd
  | t _ _ => cases hd
theorem seesAll_flat : ∀ {xs : List Va} {ds : List PyData}, SeesAll S xs ds → ds.all flatD = true → xs = ds.map .d
  | _, _, .nil, _ => rfl
  | _, _, .cons h t, hd => by
    rw [List.all_cons, Bool.and_eq_true] at hd
    rw [List.map_cons, h.flat hd.1, seesAll_flat t hd.2]
theorem Sees.lflat {x : Va} {ds : List PyData} (h : Sees S x (.list ds)) (hd : ds.all flatD = true) : Lst S x (ds.map .d) := by
  obtain ⟨xs, h1, h2⟩ := h.lst
  rw [seesAll_flat h2 hd] at h1
  exact h1
/-! the heap's side -/
theorem Lst.at_ (c : Cf K S F H) {x : Va} {xs : List Va} {v : V} (h : Lst S x xs) (hv : VaOk K F x v) : ∃ a vs, v = .ref a ∧ SqL K H a vs ∧ Paired (VaOk K F) xs vs := by
  cases h with
  | d ds =>
    cases hv with
    | lst h t => exact ⟨_, _, rfl, same_l c.ex h, d_vas t⟩
  | r m =>
    obtain ⟨vs, e, p⟩ := c.ok _ m
    exact ⟨_, vs, hv, .inl (.inl e), p⟩
theorem Tpl.at_ (c : Cf K S F H) {x : Va} {xs : List Va} {v : V} (h : Tpl S x xs) (hv : VaOk K F x v) : ∃ a vs, v = .ref a ∧ SqT K H a vs ∧ Paired (VaOk K F) xs vs := by
  cases h with
  | d ds =>
    cases hv with
    | tup h t => exact ⟨_, _, rfl, .inl (.inl (c.ex _ _ h)), d_vas t⟩
  | r m =>
    obtain ⟨vs, e, p⟩ := c.ok _ m
    exact ⟨_, vs, hv, .inl (.inl e), p⟩
mutual
theorem Sees.at_ (c : Cf K S F H) : ∀ {x : Va} {d : PyData} {v : V}, Sees S x d → VaOk K F x v → At K H v d
  | _, _, _, .d _, hv => At.mono c.ex hv
  | _, _, _, .l m t, hv => by
    obtain ⟨vs, e, p⟩ := c.ok _ m
    cases hv
    exact .lst (.inl (.inl e)) (SeesAll.at_ c t p)
  | _, _, _, .t m t, hv => by
    obtain ⟨vs, e, p⟩ := c.ok _ m
    cases hv
    exact .tup e (SeesAll.at_ c t p)
theorem SeesAll.at_ (c : Cf K S F H) : ∀ {xs : List Va} {ds : List PyData} {vs : List V}, SeesAll S xs ds → Paired (VaOk K F) xs vs → AtAll K H vs ds
  | _, _, _, .nil, h => by cases h; exact .nil
  | _, _, _, .cons h t, hv => by
    cases hv with
    | cons h1 t1 => exact .cons (Sees.at_ c h h1) (SeesAll.at_ c t t1)
end
end
end DL

namespace DL
open PySem PySem.Spec PyProof.Rows L2

section
variable (K : PySem.W.Frag)
abbrev QE := Va → Sto → Prop
def PostE (F : Hp) (Q : QE) (Q' : VK) : Prop := ∀ v F' H' x S', Same F F' → Cf K S' F' H' → VaOk K F' x v → Q x S' → Q' v H'
def PostT (F : Hp) (Q : Bool → Sto → Prop) (Q' : Bool → Hp → Prop) : Prop := ∀ b F' H' S', Same F F' → Cf K S' F' H' → Q b S' → Q' b H'
def PostA (F : Hp) (Q : List Va → Sto → Prop) (Q' : List V → Hp → Prop) : Prop := ∀ vs F' H' xs S', Same F F' → Cf K S' F' H' → Paired (VaOk K F') xs vs → Q xs S' → Q' vs H'
def dE (te : TE) (Γ : Env) (S : Sto) (Q : QE) : Prop := ∀ σ F H, Slots K F Γ σ → Cf K S F H → ∀ Q' : VK, PostE K F Q Q' → te σ H Q'
def dT (tt : TT) (Γ : Env) (S : Sto) (Q : Bool → Sto → Prop) : Prop := ∀ σ F H, Slots K F Γ σ → Cf K S F H → ∀ Q', PostT K F Q Q' → tt σ H Q'
def dA (ta : TA) (Γ : Env) (S : Sto) (Q : List Va → Sto → Prop) : Prop := ∀ σ F H, Slots K F Γ σ → Cf K S F H → ∀ Q', PostA K F Q Q' → ta σ H Q'
/-- by values: one, two, a list of them -/
def dR1 (r : V → Hp → VK → Prop) (x : Va) (S : Sto) (Q : QE) : Prop := ∀ v F H, Cf K S F H → VaOk K F x v → ∀ Q' : VK, PostE K F Q Q' → r v H Q'
def dR2 (r : R2) (x y : Va) (S : Sto) (Q : QE) : Prop := ∀ v u F H, Cf K S F H → VaOk K F x v → VaOk K F y u → ∀ Q' : VK, PostE K F Q Q' → r v u H Q'
def dRL (r : List V → Hp → VK → Prop) (xs : List Va) (S : Sto) (Q : QE) : Prop := ∀ vs F H, Cf K S F H → Paired (VaOk K F) xs vs → ∀ Q' : VK, PostE K F Q Q' → r vs H Q'
def dRM (r : V → List V → Hp → VK → Prop) (x : Va) (xs : List Va) (S : Sto) (Q : QE) : Prop := ∀ v vs F H, Cf K S F H → VaOk K F x v → Paired (VaOk K F) xs vs → ∀ Q' : VK, PostE K F Q Q' → r v vs H Q'
/-- statements -/
structure DEnds where
  nx : Env → Sto → Prop
  rt : Va → Sto → Prop
  bk : Env → Sto → Prop := fun _ _ => False
  ct : Env → Sto → Prop := fun _ _ => False
def PostS (F : Hp) (n : Env → Sto → Prop) (n' : L2.St → Hp → Prop) : Prop := ∀ σ' F' H' Γ' S', Same F F' → Slots K F' Γ' σ' → Cf K S' F' H' → n Γ' S' → n' σ' H'
structure EOk (F : Hp) (N : DEnds) (D : Ends) : Prop where
  nx : PostS K F N.nx D.nx
  rt : PostE K F N.rt D.rt
  bk : PostS K F N.bk D.bk
  ct : PostS K F N.ct D.ct
def dS (ts : TS) (N : DEnds) (Γ : Env) (S : Sto) : Prop := ∀ σ F H, Slots K F Γ σ → Cf K S F H → ∀ D, EOk K F N D → ts D σ H
/-- a target -/
def dG (g : TG) (x : Va) (Γ : Env) (S : Sto) (Q : Env → Sto → Prop) : Prop := ∀ v σ F H, Slots K F Γ σ → Cf K S F H → VaOk K F x v → ∀ Q', PostS K F Q Q' → g v σ H Q'
def dGs (g : TGs) (xs : List Va) (Γ : Env) (S : Sto) (Q : Env → Sto → Prop) : Prop := ∀ vs σ F H, Slots K F Γ σ → Cf K S F H → Paired (VaOk K F) xs vs → ∀ Q', PostS K F Q Q' → g vs σ H Q'
end

section
variable {K : PySem.W.Frag} {F F' H H' : Hp} {S S' : Sto} {Γ : Env} {σ : L2.St} {x y z : Va} {v : V} {Q : QE} {Q' : VK} {te ta tb tc : TE} {N : DEnds} {D : Ends}
theorem PostE.mono (e : Same F F') (h : PostE K F Q Q') : PostE K F' Q Q' := fun v F1 H1 x S1 e1 => h v F1 H1 x S1 (e.trans e1)
theorem PostT.mono {Q : Bool → Sto → Prop} {Q'} (e : Same F F') (h : PostT K F Q Q') : PostT K F' Q Q' := fun v F1 H1 S1 e1 => h v F1 H1 S1 (e.trans e1)
theorem PostA.mono {Q : List Va → Sto → Prop} {Q'} (e : Same F F') (h : PostA K F Q Q') : PostA K F' Q Q' := fun v F1 H1 x S1 e1 => h v F1 H1 x S1 (e.trans e1)
theorem PostS.mono {n n'} (e : Same F F') (h : PostS K F n n') : PostS K F' n n' := fun v F1 H1 x S1 e1 => h v F1 H1 x S1 (e.trans e1)
theorem EOk.mono (e : Same F F') (h : EOk K F N D) : EOk K F' N D := ⟨h.nx.mono e, h.rt.mono e, h.bk.mono e, h.ct.mono e⟩
/-- weakening -/
theorem dE.imp {Q1 Q2 : QE} (h : dE K te Γ S Q1) (i : ∀ x S', Q1 x S' → Q2 x S') : dE K te Γ S Q2 := fun σ F H s c Q' p => h σ F H s c Q' fun v F1 H1 x S1 e c1 o q => p v F1 H1 x S1 e c1 o (i x S1 q)
theorem dT.imp {t : TT} {Q1 Q2 : Bool → Sto → Prop} (h : dT K t Γ S Q1) (i : ∀ x S', Q1 x S' → Q2 x S') : dT K t Γ S Q2 := fun σ F H s c Q' p => h σ F H s c Q' fun v F1 H1 S1 e c1 q => p v F1 H1 S1 e c1 (i v S1 q)

theorem sz_lt {n : Nat} (h : n < 100000) : n < sizeLine := Nat.lt_of_lt_of_le h (by decide)
theorem sz_le {n : Nat} (h : n ≤ 100000) : n ≤ sizeLine := Nat.le_trans h (by decide)
theorem okD {d : PyData} {v : V} (h : At K F v d) : VaOk K F (.d d) v := h
theorem okR {a : Addr} : VaOk K F (.r a) (.ref a) := show V.ref a = V.ref a from rfl
theorem okO {v : V} : VaOk K F (.o v) v := show v = v from rfl
/-! ### expressions -/
theorem d_var {i : Nat} (h : Γ[i]? = some (some x)) (q : Q x S) : dE K (tVar i) Γ S Q := fun σ F H s c Q' p => by
  obtain ⟨v, e, o⟩ := s.get h
  exact ⟨v, e, p v F H x S (.refl F) c o q⟩
theorem d_int {i : Int} (q : Q (.d (.int i)) S) : dE K (tC (.int i)) Γ S Q := fun σ F H _ c _ p => p _ F H _ S (.refl F) c (okD (.int i)) q
theorem d_bl {b : Bool} (q : Q (.d (.bool b)) S) : dE K (tC (.bl b)) Γ S Q := fun σ F H _ c _ p => p _ F H _ S (.refl F) c (okD (.bl b)) q
theorem d_str {z : Str} (q : Q (.d (.str z)) S) : dE K (tC (.str z)) Γ S Q := fun σ F H _ c _ p => p _ F H _ S (.refl F) c (okD (.str z)) q
theorem d_non (q : Q (.d .none) S) : dE K (tC .non) Γ S Q := fun σ F H _ c _ p => p _ F H _ S (.refl F) c (okD .non) q
theorem d_oth {v : V} (q : Q (.o v) S) : dE K (tC v) Γ S Q := fun σ F H _ c _ p => p _ F H _ S (.refl F) c okO q
theorem d_op {r : R2} (h : dE K ta Γ S fun x S1 => dE K tb Γ S1 fun y S2 => dR2 K r x y S2 Q) : dE K (tOp r ta tb) Γ S Q := fun σ F H s c Q' p =>
  h σ F H s c _ fun v F1 H1 x S1 e1 c1 o1 h1 => h1 σ F1 H1 (s.mono e1) c1 _ fun u F2 H2 y S2 e2 c2 o2 h2 => h2 v u F2 H2 c2 (o1.mono e2) o2 Q' (p.mono (e1.trans e2))
theorem d_un {r : V → Hp → VK → Prop} (h : dE K ta Γ S fun x S1 => dR1 K r x S1 Q) : dE K (tUn r ta) Γ S Q := fun σ F H s c Q' p =>
  h σ F H s c _ fun v F1 H1 x S1 e1 c1 o1 h1 => h1 v F1 H1 c1 o1 Q' (p.mono e1)
theorem d_andV (h : dE K ta Γ S fun x S1 => ∃ b, x = .d (.bool b) ∧ (b = true → dE K tb Γ S1 Q) ∧ (b = false → Q (.d (.bool false)) S1)) : dE K (tAndV ta tb) Γ S Q := fun σ F H s c Q' p =>
  h σ F H s c _ fun v F1 H1 x S1 e1 c1 o1 ⟨b, e, h1, h2⟩ => by
    subst e
    cases o1
    refine ⟨b, rfl, ?_⟩
    cases b with
    | true =>
      rw [if_pos rfl]
      exact h1 rfl σ F1 H1 (s.mono e1) c1 Q' (p.mono e1)
    | false =>
      rw [if_neg Bool.false_ne_true]
      exact p _ F1 H1 _ S1 e1 c1 (okD (.bl false)) (h2 rfl)
theorem d_orV (h : dE K ta Γ S fun x S1 => ∃ b, x = .d (.bool b) ∧ (b = false → dE K tb Γ S1 Q) ∧ (b = true → Q (.d (.bool true)) S1)) : dE K (tOrV ta tb) Γ S Q := fun σ F H s c Q' p =>
  h σ F H s c _ fun v F1 H1 x S1 e1 c1 o1 ⟨b, e, h1, h2⟩ => by
    subst e
    cases o1
    refine ⟨b, rfl, ?_⟩
    cases b with
    | false =>
      rw [if_neg Bool.false_ne_true]
      exact h1 rfl σ F1 H1 (s.mono e1) c1 Q' (p.mono e1)
    | true =>
      rw [if_pos rfl]
      exact p _ F1 H1 _ S1 e1 c1 (okD (.bl true)) (h2 rfl)
theorem d_notV (h : dE K ta Γ S fun x S1 => ∃ b, x = .d (.bool b) ∧ Q (.d (.bool (!b))) S1) : dE K (tNotV ta) Γ S Q := fun σ F H s c Q' p =>
  h σ F H s c _ fun v F1 H1 x S1 e1 c1 o1 ⟨b, e, h1⟩ => by
    subst e
    cases o1
    exact ⟨b, rfl, p _ F1 H1 _ S1 e1 c1 (okD (.bl _)) h1⟩
theorem d_ifE {t : TT} (h : dT K t Γ S fun b S1 => (b = true → dE K ta Γ S1 Q) ∧ (b = false → dE K tb Γ S1 Q)) : dE K (tIf t ta tb) Γ S Q := fun σ F H s c Q' p =>
  h σ F H s c _ fun b F1 H1 S1 e1 c1 ⟨h1, h2⟩ => by
    cases b with
    | true => rw [if_pos rfl]; exact h1 rfl σ F1 H1 (s.mono e1) c1 Q' (p.mono e1)
    | false => rw [if_neg Bool.false_ne_true]; exact h2 rfl σ F1 H1 (s.mono e1) c1 Q' (p.mono e1)
theorem d_chain {r r' : R2} (h : dE K ta Γ S fun x S1 => dE K tb Γ S1 fun y S2 => dR2 K r x y S2 fun z S3 => ∃ b, z = .d (.bool b) ∧ (b = true → dE K tc Γ S3 fun w S4 => dR2 K r' y w S4 Q) ∧ (b = false → Q (.d (.bool false)) S3)) :
    dE K (tChain r r' ta tb tc) Γ S Q := fun σ F H s c Q' p =>
  h σ F H s c _ fun v F1 H1 x S1 e1 c1 o1 h1 => h1 σ F1 H1 (s.mono e1) c1 _ fun u F2 H2 y S2 e2 c2 o2 h2 => h2 v u F2 H2 c2 (o1.mono e2) o2 _ fun zv F3 H3 z S3 e3 c3 o3 ⟨b, ez, h3, h4⟩ => by
    subst ez
    cases o3
    refine ⟨b, rfl, ?_⟩
    cases b with
    | true =>
      rw [if_pos rfl]
      exact h3 rfl σ F3 H3 (s.mono ((e1.trans e2).trans e3)) c3 _ fun wv F4 H4 w S4 e4 c4 o4 h5 => h5 u wv F4 H4 c4 ((o2.mono e3).mono e4) o4 Q' (p.mono (((e1.trans e2).trans e3).trans e4))
    | false =>
      rw [if_neg Bool.false_ne_true]
      exact p _ F3 H3 _ S3 ((e1.trans e2).trans e3) c3 (okD (.bl false)) (h4 rfl)
/-! tests -/
theorem d_test {Q : Bool → Sto → Prop} (h : dE K te Γ S fun x S1 => ∃ b, x = .d (.bool b) ∧ Q b S1) : dT K (tTest te) Γ S Q := fun σ F H s c Q' p =>
  h σ F H s c _ fun v F1 H1 x S1 e1 c1 o1 ⟨b, e, h1⟩ => by
    subst e
    cases o1
    exact ⟨b, rfl, p b F1 H1 S1 e1 c1 h1⟩
theorem d_tB {Q : Bool → Sto → Prop} (h : dE K te Γ S fun x S1 => ∃ b, x = .d (.bool b) ∧ Q b S1) : dT K (tB te) Γ S Q := d_test h
theorem d_tand {t u : TT} {Q : Bool → Sto → Prop} (h : dT K t Γ S fun b S1 => (b = true → dT K u Γ S1 Q) ∧ (b = false → Q false S1)) : dT K (tAnd t u) Γ S Q := fun σ F H s c Q' p =>
  h σ F H s c _ fun b F1 H1 S1 e1 c1 ⟨h1, h2⟩ => by
    cases b with
    | true => rw [if_pos rfl]; exact h1 rfl σ F1 H1 (s.mono e1) c1 Q' (p.mono e1)
    | false => rw [if_neg Bool.false_ne_true]; exact p _ F1 H1 S1 e1 c1 (h2 rfl)
theorem d_tor {t u : TT} {Q : Bool → Sto → Prop} (h : dT K t Γ S fun b S1 => (b = true → Q true S1) ∧ (b = false → dT K u Γ S1 Q)) : dT K (tOr t u) Γ S Q := fun σ F H s c Q' p =>
  h σ F H s c _ fun b F1 H1 S1 e1 c1 ⟨h1, h2⟩ => by
    cases b with
    | true => rw [if_pos rfl]; exact p _ F1 H1 S1 e1 c1 (h1 rfl)
    | false => rw [if_neg Bool.false_ne_true]; exact h2 rfl σ F1 H1 (s.mono e1) c1 Q' (p.mono e1)
theorem d_tnot {t : TT} {Q : Bool → Sto → Prop} (h : dT K t Γ S fun b S1 => Q (!b) S1) : dT K (tNot t) Γ S Q := fun σ F H s c Q' p =>
  h σ F H s c _ fun b F1 H1 S1 e1 c1 h1 => p _ F1 H1 S1 e1 c1 h1
theorem d_tyes {Q : Bool → Sto → Prop} (h : Q true S) : dT K tYes Γ S Q := fun σ F H _ c _ p => p _ F H S (.refl F) c h
/-! arguments -/
theorem d_anil {Q : List Va → Sto → Prop} (h : Q [] S) : dA K tNil Γ S Q := fun σ F H _ c _ p => p _ F H _ S (.refl F) c .nil h
theorem d_acons {t : TA} {Q : List Va → Sto → Prop} (h : dE K te Γ S fun x S1 => dA K t Γ S1 fun xs S2 => Q (x :: xs) S2) : dA K (tCons te t) Γ S Q := fun σ F H s c Q' p =>
  h σ F H s c _ fun v F1 H1 x S1 e1 c1 o1 h1 => h1 σ F1 H1 (s.mono e1) c1 _ fun vs F2 H2 xs S2 e2 c2 o2 h2 => p _ F2 H2 _ S2 (e1.trans e2) c2 (.cons (o1.mono e2) o2) h2
theorem d_lst {t : TA} (h : dA K t Γ S fun xs S1 => xs.length ≤ sizeLine ∧ ∀ p, Q (.r p) ((p, .lst xs) :: S1)) : dE K (tLst t) Γ S Q := fun σ F H s c Q' p =>
  h σ F H s c _ fun vs F1 H1 xs S1 e1 c1 o1 ⟨z, h1⟩ => ⟨by rw [← plen o1]; exact z, fun a ha => p _ F1 _ _ _ e1 (c1.newL ha o1) okR (h1 a)⟩
theorem d_tup {t : TA} (h : dA K t Γ S fun xs S1 => xs.length ≤ sizeLine ∧ ∀ p, Q (.r p) ((p, .tup xs) :: S1)) : dE K (tTup t) Γ S Q := fun σ F H s c Q' p =>
  h σ F H s c _ fun vs F1 H1 xs S1 e1 c1 o1 ⟨z, h1⟩ => ⟨by rw [← plen o1]; exact z, fun a ha => p _ F1 _ _ _ e1 (c1.newT ha o1) okR (h1 a)⟩
theorem d_cb {r : List V → Hp → VK → Prop} {t : TA} (h : dA K t Γ S fun xs S1 => dRL K r xs S1 Q) : dE K (tCB r t) Γ S Q := fun σ F H s c Q' p =>
  h σ F H s c _ fun vs F1 H1 xs S1 e1 c1 o1 h1 => h1 vs F1 H1 c1 o1 Q' (p.mono e1)
/-- what a list, a text is called for its method -/
def Tys (S : Sto) (T : String) : Va → Prop
  | .d (.list _) => T = "list"
  | .d (.str _) => T = "str"
  | .d (.int _) => T = "int"
  | .r a => T = "list" ∧ ∃ xs, (a, .lst xs) ∈ S
  | _ => False
theorem Tys.ok (c : Cf K S F H) {T : String} {x : Va} {v : V} (h : Tys S T x) (o : VaOk K F x v) : tyV K T v H := by
  match x, h with
  | .d (.list _), h =>
    cases o with
    | lst a b => exact .inl ⟨h, _, same_l c.ex a⟩
  | .d (.str _), h => cases o; exact h
  | .d (.int _), h => cases o; exact h
  | .r a, ⟨h, xs, m⟩ =>
    obtain ⟨vs, e, _⟩ := c.ok _ m
    cases o
    exact .inl ⟨h, vs, .inl (.inl e)⟩
theorem d_bm {T : String} {r : V → List V → Hp → VK → Prop} {t : TA} (h : dE K te Γ S fun x S1 => Tys S1 T x ∧ dA K t Γ S1 fun xs S2 => dRM K r x xs S2 Q) : dE K (tBM K T r te t) Γ S Q := fun σ F H s c Q' p =>
  h σ F H s c _ fun v F1 H1 x S1 e1 c1 o1 ⟨ty, h1⟩ => ⟨ty.ok c1 o1, h1 σ F1 H1 (s.mono e1) c1 _ fun vs F2 H2 xs S2 e2 c2 o2 h2 => h2 v vs F2 H2 c2 (o1.mono e2) o2 Q' (p.mono (e1.trans e2))⟩
theorem d_bm0 {T : String} {r : V → List V → Hp → VK → Prop} (h : dE K te Γ S fun x S1 => Tys S1 T x ∧ dRM K r x [] S1 Q) : dE K (tBM0 K T r te) Γ S Q := fun σ F H s c Q' p =>
  h σ F H s c _ fun v F1 H1 x S1 e1 c1 o1 ⟨ty, h1⟩ => ⟨ty.ok c1 o1, h1 v [] F1 H1 c1 o1 .nil Q' (p.mono e1)⟩

/-! ### a def's promise -/
structure Spec (α : Type) where
  pre : α → List Va → Sto → Prop
  post : α → Sto → Va → Sto → Prop
def spD (K : PySem.W.Frag) {α : Type} (sp : Spec α) : Sp := fun vs H Q _ => ∃ (F : Hp) (xs : List Va) (S : Sto) (a : α), Cf K S F H ∧ Paired (VaOk K F) xs vs ∧ sp.pre a xs S ∧ PostE K F (sp.post a S) Q
theorem d_call {α : Type} {sp : Spec α} {E : XK} {t : TA} (h : dA K t Γ S fun xs S1 => ∃ a, sp.pre a xs S1 ∧ ∀ x S', sp.post a S1 x S' → Q x S') : dE K (tCall (spD K sp) [] E t) Γ S Q := fun σ F H s c Q' p =>
  h σ F H s c _ fun vs F1 H1 xs S1 e1 c1 o1 ⟨a, h1, h2⟩ => by
    rw [List.append_nil]
    exact ⟨F1, xs, S1, a, c1, o1, h1, fun v F2 H2 x S2 e2 c2 o2 q => p v F2 H2 x S2 (e1.trans e2) c2 o2 (h2 x S2 q)⟩
/-- by the list of the values that stand for the defaults -/
theorem d_callD {α : Type} {sp : Spec α} {E : XK} {t : TA} {dvs : List V} {dxs : List Va} (hd : ∀ F, Paired (VaOk K F) dxs dvs) (h : dA K t Γ S fun xs S1 => ∃ a, sp.pre a (xs ++ dxs) S1 ∧ ∀ x S', sp.post a S1 x S' → Q x S') : dE K (tCall (spD K sp) dvs E t) Γ S Q := fun σ F H s c Q' p =>
  h σ F H s c _ fun vs F1 H1 xs S1 e1 c1 o1 ⟨a, h1, h2⟩ =>
    ⟨F1, xs ++ dxs, S1, a, c1, papp o1 (hd F1), h1, fun v F2 H2 x S2 e2 c2 o2 q => p v F2 H2 x S2 (e1.trans e2) c2 o2 (h2 x S2 q)⟩

/-! ### statements -/
theorem s_seq {t u : TS} (h : dS K t { N with nx := fun Γ' S' => dS K u N Γ' S' } Γ S) : dS K (tSeq t u) N Γ S := fun σ F H s c D o =>
  h σ F H s c _ ⟨fun σ' F' H' Γ' S' e s' c' q => q σ' F' H' s' c' D (o.mono e), o.rt, o.bk, o.ct⟩
theorem s_next (h : N.nx Γ S) : dS K tNext N Γ S := fun σ F H s c D o => o.nx σ F H Γ S (.refl F) s c h
theorem s_brk (h : N.bk Γ S) : dS K tBreak N Γ S := fun σ F H s c D o => o.bk σ F H Γ S (.refl F) s c h
theorem s_cont (h : N.ct Γ S) : dS K tCont N Γ S := fun σ F H s c D o => o.ct σ F H Γ S (.refl F) s c h
theorem s_drop (h : dE K te Γ S fun _ S' => N.nx Γ S') : dS K (tDrop te) N Γ S := fun σ F H s c D o => h σ F H s c _ fun v F1 H1 x S1 e1 c1 _ q => o.nx σ F1 H1 Γ S1 e1 (s.mono e1) c1 q
theorem s_ret (h : dE K te Γ S N.rt) : dS K (tRet te) N Γ S := fun σ F H s c D o => h σ F H s c _ o.rt
theorem s_retN (h : N.rt (.d .none) S) : dS K tRetN N Γ S := fun σ F H s c D o => o.rt _ F H _ S (.refl F) c (okD .non) h
theorem s_if {c : TT} {t u : TS} (h : dT K c Γ S fun b S1 => (b = true → dS K t N Γ S1) ∧ (b = false → dS K u N Γ S1)) : dS K (tIfS c t u) N Γ S := fun σ F H s cf D o =>
  h σ F H s cf _ fun b F1 H1 S1 e1 c1 ⟨h1, h2⟩ => by
    cases b with
    | true => rw [if_pos rfl]; exact h1 rfl σ F1 H1 (s.mono e1) c1 D (o.mono e1)
    | false => rw [if_neg Bool.false_ne_true]; exact h2 rfl σ F1 H1 (s.mono e1) c1 D (o.mono e1)
theorem s_asg {g : TG} (h : dE K te Γ S fun x S1 => dG K g x Γ S1 N.nx) : dS K (tAsg te g) N Γ S := fun σ F H s c D o =>
  h σ F H s c _ fun v F1 H1 x S1 e1 c1 o1 h1 => h1 v σ F1 H1 (s.mono e1) c1 o1 _ (o.nx.mono e1)
theorem s_par {i j : Nat} {t : TA} (h : dA K t Γ S fun xs S1 => ∃ x y, xs = [x, y] ∧ N.nx ((Γ.set i (some x)).set j (some y)) S1) : dS K (tPar i j t) N Γ S := fun σ F H s c D o =>
  h σ F H s c _ fun vs F1 H1 xs S1 e1 c1 o1 ⟨x, y, e, q⟩ => by
    subst e
    obtain _ | ⟨ox, _ | ⟨oy, _ | _⟩⟩ := o1
    exact ⟨_, _, rfl, o.nx _ F1 H1 _ S1 e1 (((s.mono e1).set i ox).set j oy) c1 q⟩
theorem g_name {i : Nat} {n : Env → Sto → Prop} (h : n (Γ.set i (some x)) S) : dG K (gName i) x Γ S n := fun v σ F H s c o Q' p => p _ F H _ S (.refl F) (s.set i o) c h
theorem gs_nil {n : Env → Sto → Prop} (h : n Γ S) : dGs K gNil [] Γ S n := fun vs σ F H s c o Q' p => by
  cases o
  exact ⟨rfl, p _ F H _ S (.refl F) s c h⟩
theorem gs_cons {g : TG} {u : TGs} {xs : List Va} {n : Env → Sto → Prop} (h : dG K g x Γ S fun Γ' S' => dGs K u xs Γ' S' n) : dGs K (gCons g u) (x :: xs) Γ S n := fun vs σ F H s c o Q' p => by
  cases o with
  | cons o1 o2 => exact ⟨_, _, rfl, h _ σ F H s c o1 _ fun σ' F' H' Γ' S' e s' c' q => q _ σ' F' H' s' c' (vas_mono e o2) Q' (p.mono e)⟩
theorem g_tup {k : Nat} {t : TGs} {xs : List Va} {n : Env → Sto → Prop} (hx : Tpl S x xs) (hk : xs.length = k) (h : dGs K t xs Γ S n) : dG K (gTup K k t) x Γ S n := fun v σ F H s c o Q' p => by
  obtain ⟨a, vs, e, q, r⟩ := hx.at_ c o
  exact ⟨a, vs, e, q, by rw [← plen r]; exact hk, h vs σ F H s c r Q' p⟩
/-- xs[i] = e: the cell a -/
theorem g_sub {n : Env → Sto → Prop} (h : dE K ta Γ S fun o S1 => dE K tb Γ S1 fun i S2 => ∃ a xs k j S', o = .r a ∧ i = .d (.int k) ∧ ixN xs.length k = some j ∧ Upd S2 a (.lst xs) (.lst (xs.set j x)) S' ∧ n Γ S') : dG K (gSub ta tb rSetL) x Γ S n := fun v σ F H s c o Q' p =>
  h σ F H s c _ fun v1 F1 H1 x1 S1 e1 c1 o1 h1 => h1 σ F1 H1 (s.mono e1) c1 _ fun v2 F2 H2 x2 S2 e2 c2 o2 ⟨a, xs, k, j, S', ea, ei, hj, u, q⟩ => by
    subst ea
    subst ei
    cases o2
    cases o1
    obtain ⟨vs, e3, r⟩ := c2.ok _ u.mem
    refine ⟨a, vs, k, j, rfl, rfl, e3, by rw [← plen r]; exact hj, ?_⟩
    exact p _ F2 _ _ S' (e1.trans e2) (s.mono (e1.trans e2)) (c2.updL u (pset (o.mono (e1.trans e2)) j r)) q
/-- while, by a word and a measure -/
theorem s_while {c : TT} {tb : TS} (I : Env → Sto → Prop) (μ : Env → Sto → Nat) (h0 : I Γ S)
    (hs : ∀ Γ S, I Γ S → dT K c Γ S fun b S1 => (b = true → dS K tb { nx := fun Γ' S' => I Γ' S' ∧ μ Γ' S' < μ Γ S, ct := fun Γ' S' => I Γ' S' ∧ μ Γ' S' < μ Γ S, bk := N.nx, rt := N.rt } Γ S1) ∧ (b = false → N.nx Γ S1)) : dS K (tWhile c tb) N Γ S := fun σ F H s cf D o => by
  refine ⟨fun m σ1 H1 => ∃ F1 Γ1 S1, Same F F1 ∧ Slots K F1 Γ1 σ1 ∧ Cf K S1 F1 H1 ∧ I Γ1 S1 ∧ m = μ Γ1 S1, ⟨_, F, Γ, S, .refl F, s, cf, h0, rfl⟩, ?_⟩
  rintro m σ1 H1 ⟨F1, Γ1, S1, e1, s1, c1, i1, rfl⟩
  refine hs Γ1 S1 i1 σ1 F1 H1 s1 c1 _ fun b F2 H2 S2 e2 c2 ⟨h1, h2⟩ => ?_
  cases b with
  | true =>
    rw [if_pos rfl]
    refine ⟨fun σ' H' => ∃ F3 Γ3 S3, Same F F3 ∧ Slots K F3 Γ3 σ' ∧ Cf K S3 F3 H' ∧ I Γ3 S3 ∧ μ Γ3 S3 < μ Γ1 S1, fun σ' H' ⟨F3, Γ3, S3, e3, s3, c3, i3, l3⟩ => ⟨_, l3, F3, Γ3, S3, e3, s3, c3, i3, rfl⟩, ?_⟩
    refine h1 rfl σ1 F2 H2 (s1.mono e2) c2 _ ⟨fun σ' F' H' Γ' S' e s' c' q => ⟨F', Γ', S', (e1.trans e2).trans e, s', c', q.1, q.2⟩, o.rt.mono (e1.trans e2), o.nx.mono (e1.trans e2), fun σ' F' H' Γ' S' e s' c' q => ⟨F', Γ', S', (e1.trans e2).trans e, s', c', q.1, q.2⟩⟩
  | false =>
    rw [if_neg Bool.false_ne_true]
    exact o.nx.mono (e1.trans e2) σ1 F2 H2 Γ1 S2 (.refl F2) (s1.mono e2) c2 (h2 rfl)
end
end DL

namespace DL
open PySem PySem.Spec PyProof.Rows L2

/-! ### own names for the layer's readings -/
def rLen (K : PySem.W.Frag) : List V → Hp → VK → Prop := fun xs H Q => ∃ p ys, xs = [.ref p] ∧ (SqL K H p ys ∨ SqT K H p ys) ∧ Q (.int ys.length) H
def rLenS : List V → Hp → VK → Prop := fun xs H Q => ∃ y, xs = [.str y] ∧ y.length ≤ sizeLine ∧ Q (.int y.length) H
def rAbs : List V → Hp → VK → Prop := fun xs H Q => ∃ i, xs = [.int i] ∧ Q (.int (if i < 0 then -i else i)) H
def rMax2 : List V → Hp → VK → Prop := fun xs H Q => ∃ i j, xs = [.int i, .int j] ∧ Q (.int (if j > i then j else i)) H
def rMin2 : List V → Hp → VK → Prop := fun xs H Q => ∃ i j, xs = [.int i, .int j] ∧ Q (.int (if j < i then j else i)) H
def rInt1 : List V → Hp → VK → Prop := fun xs H Q => (∃ i, xs = [.int i] ∧ Q (.int i) H) ∨ ∃ k, xs = [.bl k] ∧ Q (.int (if k then 1 else 0)) H
def rListOf (K : PySem.W.Frag) : List V → Hp → VK → Prop := fun xs H Q => ∃ p ys, xs = [.ref p] ∧ (SqL K H p ys ∨ SqT K H p ys) ∧ ∀ l, H l = none → Q (.ref l) (upd H l (.lst ys))
def rStrI : List V → Hp → VK → Prop := fun xs H Q => ∃ i, xs = [.int i] ∧ i.natAbs.log2 < 1920 ∧ Q (.str (toString i)) H
section
variable {X : Cx}
theorem c_len : CallR X (.builtin "len") (rLen X.K) := call_len_seq
theorem c_abs : CallR X (.builtin "abs") rAbs := call_abs
theorem c_max2 (hc : X.calm = true) : CallR X (.builtin "max") rMax2 := call_max2 hc
theorem c_min2 (hc : X.calm = true) : CallR X (.builtin "min") rMin2 := call_min2 hc
theorem c_int1 : CallR X (.type "int") rInt1 := call_int1
theorem c_list : CallR X (.type "list") (rListOf X.K) := call_list_of
theorem c_str : CallR X (.type "str") rStrI := call_str_int
/-- ints: own powers, products -/
def CPowW (i j : Int) : Prop := 0 ≤ j ∧ (Builtin.Int.intBits i : Int) * j ≤ 2 ^ 27
theorem op_powW : OpR X (binaryOp .Pow) (rI CPowW fun i j => .int (i ^ j.toNat)) := opI fun _ _ _ _ _ _ _ hc q => pow_int hc.1 hc.2 q
/-- two lists, read ones too -/
def rCatL (K : PySem.W.Frag) : R2 := fun x y H Q => ∃ l b xs zs, x = .ref l ∧ y = .ref b ∧ SqL K H l xs ∧ SqL K H b zs ∧ xs.length + zs.length ≤ sizeLine ∧ ∀ p, H p = none → Q (.ref p) (upd H p (.lst (xs ++ zs)))
theorem op_catL : OpR X (binaryOp .Add) (rCatL X.K) := by
  intro pins s σ H x y v u Q I rx ry h
  obtain ⟨l, b, xs, zs, rfl, rfl, hH, hB, hz, q⟩ := h
  cases rx
  cases ry
  obtain ⟨its, r, ⟨⟨c1, dd1, da1, sl1⟩, n, e, hc, hd, hda⟩, _⟩ := I.list hH
  obtain ⟨its2, r2, ⟨⟨c2, dd2, da2, sl2⟩, n2, e2, hc2, hd2, hda2⟩, _⟩ := I.list hB
  cases hc; cases hd; cases hda; cases hc2; cases hd2; cases hda2
  have l1 := r.length
  have l2 := r2.length
  have ea : its.toArray ++ its2.toArray = (its ++ its2).toArray := by simp
  refine concat_meets ⟨_, e, rfl⟩ ⟨_, e2, rfl⟩ noFill_list_add seq_list_add PySem.F.slot_list_add PySem.F.entry_list_add (PySem.F.args_list_add_2 _ _) (list_addW l b its.toArray its2.toArray n n2 _ _ sl1 sl2 (by rw [List.size_toArray, List.size_toArray]; omega)) ⟨e, e2, ?_⟩
  rw [ea]
  exact ⟨.ref _, _, I.lnew (t' := s.toks) (r.append r2) (by rw [List.length_append]; omega), rfl, q _ I.fresh⟩
end

section
variable {K : PySem.W.Frag} {S S' : Sto} {Γ : Env} {x y z : Va} {Q : QE} {te ta tb tc : TE} {N : DEnds}
/-! ### ints -/
theorem r_i {g : Int → Int → Int} {i j : Int} (q : Q (.d (.int (g i j))) S) : dR2 K (rI0 fun i j => .int (g i j)) (.d (.int i)) (.d (.int j)) S Q := fun v u F H c o1 o2 Q' p => by
  cases o1; cases o2
  exact ⟨i, j, rfl, rfl, p _ F H _ S (.refl F) c (okD (.int _)) q⟩
theorem r_b {g : Int → Int → Bool} {i j : Int} (q : Q (.d (.bool (g i j))) S) : dR2 K (rI0 fun i j => .bl (g i j)) (.d (.int i)) (.d (.int j)) S Q := fun v u F H c o1 o2 Q' p => by
  cases o1; cases o2
  exact ⟨i, j, rfl, rfl, p _ F H _ S (.refl F) c (okD (.bl _)) q⟩
theorem r_c {C : Int → Int → Prop} {g : Int → Int → Int} {i j : Int} (hc : C i j) (q : Q (.d (.int (g i j))) S) : dR2 K (rI C fun i j => .int (g i j)) (.d (.int i)) (.d (.int j)) S Q := fun v u F H c o1 o2 Q' p => by
  cases o1; cases o2
  exact ⟨i, j, rfl, rfl, hc, p _ F H _ S (.refl F) c (okD (.int _)) q⟩
theorem r_u {g : Int → Int} {i : Int} (q : Q (.d (.int (g i))) S) : dR1 K (rU fun i => .int (g i)) (.d (.int i)) S Q := fun v F H c o1 Q' p => by
  cases o1
  exact ⟨i, rfl, p _ F H _ S (.refl F) c (okD (.int _)) q⟩
theorem r_abs {i : Int} (q : Q (.d (.int (if i < 0 then -i else i))) S) : dRL K rAbs [.d (.int i)] S Q := fun vs F H c o Q' p => by
  obtain _ | ⟨o1, _ | _⟩ := o
  cases o1
  exact ⟨i, rfl, p _ F H _ S (.refl F) c (okD (.int _)) q⟩
theorem r_max2 {i j : Int} (q : Q (.d (.int (if j > i then j else i))) S) : dRL K rMax2 [.d (.int i), .d (.int j)] S Q := fun vs F H c o Q' p => by
  obtain _ | ⟨o1, _ | ⟨o2, _ | _⟩⟩ := o
  cases o1; cases o2
  exact ⟨i, j, rfl, p _ F H _ S (.refl F) c (okD (.int _)) q⟩
theorem r_min2 {i j : Int} (q : Q (.d (.int (if j < i then j else i))) S) : dRL K rMin2 [.d (.int i), .d (.int j)] S Q := fun vs F H c o Q' p => by
  obtain _ | ⟨o1, _ | ⟨o2, _ | _⟩⟩ := o
  cases o1; cases o2
  exact ⟨i, j, rfl, p _ F H _ S (.refl F) c (okD (.int _)) q⟩
theorem r_int1 {i : Int} (q : Q (.d (.int i)) S) : dRL K rInt1 [.d (.int i)] S Q := fun vs F H c o Q' p => by
  obtain _ | ⟨o1, _ | _⟩ := o
  cases o1
  exact .inl ⟨i, rfl, p _ F H _ S (.refl F) c (okD (.int _)) q⟩
theorem r_int1b {b : Bool} (q : Q (.d (.int (if b then 1 else 0))) S) : dRL K rInt1 [.d (.bool b)] S Q := fun vs F H c o Q' p => by
  obtain _ | ⟨o1, _ | _⟩ := o
  cases o1
  exact .inr ⟨b, rfl, p _ F H _ S (.refl F) c (okD (.int _)) q⟩
theorem r_str {i : Int} (h : i.natAbs.log2 < 1920) (q : Q (.d (.str (toString i))) S) : dRL K rStrI [.d (.int i)] S Q := fun vs F H c o Q' p => by
  obtain _ | ⟨o1, _ | _⟩ := o
  cases o1
  exact ⟨i, rfl, h, p _ F H _ S (.refl F) c (okD (.str _)) q⟩

/-! ### data -/
theorem r_eqD {d e : PyData} (hx : Sees S x d) (hy : Sees S y e) (sd : SeqAt.shaped d = true) (se : SeqAt.shaped e = true) (q : Q (.d (.bool (PyData.eqv d e))) S) : dR2 K (rEqD K) x y S Q := fun v u F H c o1 o2 Q' p =>
  ⟨d, e, (hx.at_ c o1).dp (PyData.hasDict_of_canLay _ (SeqAt.canLay_of_shaped sd)), (hy.at_ c o2).dp (PyData.hasDict_of_canLay _ (SeqAt.canLay_of_shaped se)), sd, se, p _ F H _ S (.refl F) c (okD (.bl _)) q⟩
theorem r_neD {d e : PyData} (hx : Sees S x d) (hy : Sees S y e) (sd : SeqAt.shaped d = true) (se : SeqAt.shaped e = true) (q : Q (.d (.bool (!PyData.eqv d e))) S) : dR2 K (rNeD K) x y S Q := fun v u F H c o1 o2 Q' p =>
  ⟨d, e, (hx.at_ c o1).dp (PyData.hasDict_of_canLay _ (SeqAt.canLay_of_shaped sd)), (hy.at_ c o2).dp (PyData.hasDict_of_canLay _ (SeqAt.canLay_of_shaped se)), sd, se, p _ F H _ S (.refl F) c (okD (.bl _)) q⟩
theorem r_inD {d : PyData} {ds : List PyData} (hx : Sees S x d) (hy : Sees S y (.list ds)) (sd : SeqAt.shaped d = true) (se : SeqAt.shaped (.list ds) = true) (q : Q (.d (.bool (ds.any fun z => PyData.eqv z d))) S) : dR2 K (rInD K) x y S Q := fun v u F H c o1 o2 Q' p =>
  ⟨d, ds, (hx.at_ c o1).dp (PyData.hasDict_of_canLay _ (SeqAt.canLay_of_shaped sd)), (hy.at_ c o2).dp (PyData.hasDict_of_canLay _ (SeqAt.canLay_of_shaped se)), sd, se, p _ F H _ S (.refl F) c (okD (.bl _)) q⟩
theorem r_notInD {d : PyData} {ds : List PyData} (hx : Sees S x d) (hy : Sees S y (.list ds)) (sd : SeqAt.shaped d = true) (se : SeqAt.shaped (.list ds) = true) (q : Q (.d (.bool (!ds.any fun z => PyData.eqv z d))) S) : dR2 K (rNotInD K) x y S Q := fun v u F H c o1 o2 Q' p =>
  ⟨d, ds, (hx.at_ c o1).dp (PyData.hasDict_of_canLay _ (SeqAt.canLay_of_shaped sd)), (hy.at_ c o2).dp (PyData.hasDict_of_canLay _ (SeqAt.canLay_of_shaped se)), sd, se, p _ F H _ S (.refl F) c (okD (.bl _)) q⟩
theorem at_flat {F : Hp} {v : V} {d : PyData} (h : At K F v d) (hd : flatD d = true) : flatV v = true := by
  cases h <;> first | rfl | cases hd
theorem eqV_eqv {F F' : Hp} {v u : V} {d e : PyData} (h : At K F v d) (h' : At K F' u e) (hd : flatD d = true) (he : flatD e = true) : eqV v u = PyData.eqv d e := by
  cases h <;> cases h' <;> first | rfl | cases hd | cases he
theorem at_flats {F : Hp} : ∀ {vs : List V} {ds : List PyData}, AtAll K F vs ds → ds.all flatD = true → vs.all flatV = true
  | _, _, .nil, _ => rfl
  | _, _, .cons h t, hd => by
    rw [List.all_cons, Bool.and_eq_true] at hd ⊢
    exact ⟨at_flat h hd.1, at_flats t hd.2⟩
theorem inV_any {F : Hp} {v : V} {d : PyData} (h : At K F v d) (hd : flatD d = true) : ∀ {vs : List V} {ds : List PyData}, AtAll K F vs ds → ds.all flatD = true → inV v vs = ds.any fun z => PyData.eqv z d
  | _, _, .nil, _ => rfl
  | _, _, .cons h1 t, hds => by
    rw [List.all_cons, Bool.and_eq_true] at hds
    have := inV_any h hd t hds.2
    unfold inV at this ⊢
    rw [List.any_cons, List.any_cons, this, eqV_eqv h1 h hds.1 hd]
/-- x in a tuple or list of flat items -/
theorem r_in {neg : Bool} {d : PyData} {ds : List PyData} (hx : Sees S x d) (hy : Sees S y (.list ds) ∨ Sees S y (.tuple ds)) (hd : flatD d = true) (hds : ds.all flatD = true)
    (q : Q (.d (.bool (if neg then !(ds.any fun z => PyData.eqv z d) else ds.any fun z => PyData.eqv z d))) S) : dR2 K (rIn K neg) x y S Q := fun v u F H c o1 o2 Q' p => by
  have a1 := hx.at_ c o1
  rcases hy with hy | hy
  · have a2 := hy.at_ c o2
    cases a2 with
    | lst h t =>
      refine ⟨_, _, rfl, .inl h, at_flat a1 hd, at_flats t hds, ?_⟩
      rw [inV_any a1 hd t hds]
      exact p _ F H _ S (.refl F) c (okD (.bl _)) q
  · have a2 := hy.at_ c o2
    cases a2 with
    | tup h t =>
      refine ⟨_, _, rfl, .inr (SqT.of h), at_flat a1 hd, at_flats t hds, ?_⟩
      rw [inV_any a1 hd t hds]
      exact p _ F H _ S (.refl F) c (okD (.bl _)) q
theorem r_len {xs : List Va} (h : Lst S x xs) (q : Q (.d (.int xs.length)) S) : dRL K (rLen K) [x] S Q := fun vs F H c o Q' p => by
  obtain _ | ⟨o1, _ | _⟩ := o
  obtain ⟨a, vs, rfl, h1, h2⟩ := h.at_ c o1
  refine ⟨a, vs, rfl, .inl h1, ?_⟩
  rw [← plen h2]
  exact p _ F H _ S (.refl F) c (okD (.int _)) q
theorem r_lenT {xs : List Va} (h : Tpl S x xs) (q : Q (.d (.int xs.length)) S) : dRL K (rLen K) [x] S Q := fun vs F H c o Q' p => by
  obtain _ | ⟨o1, _ | _⟩ := o
  obtain ⟨a, vs, rfl, h1, h2⟩ := h.at_ c o1
  refine ⟨a, vs, rfl, .inr h1, ?_⟩
  rw [← plen h2]
  exact p _ F H _ S (.refl F) c (okD (.int _)) q
theorem atI_p {R : Va → V → Prop} {xs : List Va} {vs : List V} (h : Paired R xs vs) {i : Int} {x : Va} (e : atI xs i = some x) : ∃ v, atI vs i = some v ∧ R x v := by
  unfold atI at e ⊢
  rw [plen h] at e
  cases k : ixN vs.length i with
  | none =>
    rw [k] at e
    cases e
  | some j =>
    rw [k] at e
    obtain ⟨v, e1, r⟩ := pget h e
    exact ⟨v, e1, r⟩
theorem r_ix {xs : List Va} {i : Int} {z : Va} (h : Lst S x xs) (e : atI xs i = some z) (q : Q z S) : dR2 K (rIxL K) x (.d (.int i)) S Q := fun v u F H c o1 o2 Q' p => by
  cases o2
  obtain ⟨a, vs, rfl, h1, h2⟩ := h.at_ c o1
  obtain ⟨w, e1, r⟩ := atI_p h2 e
  exact ⟨a, vs, i, w, rfl, rfl, h1, e1, p _ F H _ S (.refl F) c r q⟩
theorem r_ixT {xs : List Va} {i : Int} {z : Va} (h : Tpl S x xs) (e : atI xs i = some z) (q : Q z S) : dR2 K (rIxT K) x (.d (.int i)) S Q := fun v u F H c o1 o2 Q' p => by
  cases o2
  obtain ⟨a, vs, rfl, h1, h2⟩ := h.at_ c o1
  obtain ⟨w, e1, r⟩ := atI_p h2 e
  exact ⟨a, vs, i, w, rfl, rfl, h1, e1, p _ F H _ S (.refl F) c r q⟩
theorem r_list {xs : List Va} (h : Lst S x xs) (q : ∀ p, Q (.r p) ((p, .lst xs) :: S)) : dRL K (rListOf K) [x] S Q := fun vs F H c o Q' p => by
  obtain _ | ⟨o1, _ | _⟩ := o
  obtain ⟨a, vs, rfl, h1, h2⟩ := h.at_ c o1
  exact ⟨a, vs, rfl, .inl h1, fun l hl => p _ F _ _ _ (.refl F) (c.newL hl h2) okR (q l)⟩
theorem r_listT {xs : List Va} (h : Tpl S x xs) (q : ∀ p, Q (.r p) ((p, .lst xs) :: S)) : dRL K (rListOf K) [x] S Q := fun vs F H c o Q' p => by
  obtain _ | ⟨o1, _ | _⟩ := o
  obtain ⟨a, vs, rfl, h1, h2⟩ := h.at_ c o1
  exact ⟨a, vs, rfl, .inr h1, fun l hl => p _ F _ _ _ (.refl F) (c.newL hl h2) okR (q l)⟩
theorem r_cat {xs ys : List Va} (h : Lst S x xs) (h' : Lst S y ys) (hz : xs.length + ys.length ≤ sizeLine) (q : ∀ p, Q (.r p) ((p, .lst (xs ++ ys)) :: S)) : dR2 K (rCatL K) x y S Q := fun v u F H c o1 o2 Q' p => by
  obtain ⟨a, vs, rfl, h1, h2⟩ := h.at_ c o1
  obtain ⟨b, us, rfl, h3, h4⟩ := h'.at_ c o2
  exact ⟨a, b, vs, us, rfl, rfl, h1, h3, by rw [← plen h2, ← plen h4]; exact hz, fun l hl => p _ F _ _ _ (.refl F) (c.newL hl (papp h2 h4)) okR (q l)⟩
theorem r_rep {a : Addr} {xs : List Va} {k : Int} (h : (a, Ce.lst xs) ∈ S) (h1 : -(2 ^ 63) ≤ k) (h2 : k < 2 ^ 63) (hz : xs.length * k.toNat ≤ sizeLine) (q : ∀ p, Q (.r p) ((p, .lst (List.replicate k.toNat xs).flatten) :: S)) : dR2 K rRep (.r a) (.d (.int k)) S Q := fun v u F H c o1 o2 Q' p => by
  cases o2; cases o1
  obtain ⟨vs, e, r⟩ := c.ok _ h
  exact ⟨a, k, vs, rfl, rfl, e, h1, h2, by rw [← plen r]; exact hz, fun l hl => p _ F _ _ _ (.refl F) (c.newL hl (pfl r _)) okR (q l)⟩
def cutA (xs : List Va) (lo hi : Option Int) : List Va := (xs.drop (HT.sIx xs.length 0 lo)).take (HT.sIx xs.length xs.length hi - HT.sIx xs.length 0 lo)
theorem r_slice {xs : List Va} {lo hi : Option Int} (h : Lst S x xs) (q : ∀ p, Q (.r p) ((p, .lst (cutA xs lo hi)) :: S)) : dR1 K (fun v H Q => rSlL K v lo hi H Q) x S Q := fun v F H c o1 Q' p => by
  obtain ⟨a, vs, rfl, h1, h2⟩ := h.at_ c o1
  refine ⟨a, vs, rfl, h1, fun l hl => p _ F _ _ _ (.refl F) (c.newL hl ?_) okR (q l)⟩
  unfold cutA cutV
  rw [plen h2]
  exact ptake _ (pdrop _ h2)
/-! slices: their ends -/
def dO (K : PySem.W.Frag) (to : TO) (Γ : Env) (S : Sto) (Q : Option Int → Sto → Prop) : Prop := ∀ σ F H, Slots K F Γ σ → Cf K S F H → ∀ Q' : Option Int → Hp → Prop, (∀ o F' H' S', Same F F' → Cf K S' F' H' → Q o S' → Q' o H') → to σ H Q'
theorem o_some {Q : Option Int → Sto → Prop} (h : dE K te Γ S fun x S1 => ∃ i, x = .d (.int i) ∧ Q (some i) S1) : dO K (tPart te) Γ S Q := fun σ F H s c Q' p =>
  h σ F H s c _ fun v F1 H1 x S1 e1 c1 o1 ⟨i, e, q⟩ => by
    subst e
    cases o1
    exact ⟨i, rfl, p _ F1 H1 S1 e1 c1 q⟩
theorem o_none {Q : Option Int → Sto → Prop} (h : Q none S) : dO K tNoPart Γ S Q := fun σ F H s c Q' p => p _ F H S (.refl F) c h
theorem d_slice {tl th : TO} (h : dE K te Γ S fun x S1 => dO K tl Γ S1 fun lo S2 => dO K th Γ S2 fun hi S3 => dR1 K (fun v H Q => rSlL K v lo hi H Q) x S3 Q) : dE K (tSl (rSlL K) te tl th) Γ S Q := fun σ F H s c Q' p =>
  h σ F H s c _ fun v F1 H1 x S1 e1 c1 o1 h1 => h1 σ F1 H1 (s.mono e1) c1 _ fun lo F2 H2 S2 e2 c2 h2 => h2 σ F2 H2 (s.mono (e1.trans e2)) c2 _ fun hi F3 H3 S3 e3 c3 h3 => h3 v F3 H3 c3 (o1.mono (e2.trans e3)) Q' (p.mono ((e1.trans e2).trans e3))
/-! ranges -/
def dRg (K : PySem.W.Frag) (t : L2.St → Hp → (Int → Int → Hp → Prop) → Prop) (Γ : Env) (S : Sto) (Q : Int → Int → Sto → Prop) : Prop := ∀ σ F H, Slots K F Γ σ → Cf K S F H → ∀ Q' : Int → Int → Hp → Prop, (∀ a b F' H' S', Same F F' → Cf K S' F' H' → Q a b S' → Q' a b H') → t σ H Q'
theorem rg_1 {Q : Int → Int → Sto → Prop} (h : dE K te Γ S fun x S1 => ∃ i, x = .d (.int i) ∧ Q 0 i S1) : dRg K (tRg1 te) Γ S Q := fun σ F H s c Q' p =>
  h σ F H s c _ fun v F1 H1 x S1 e1 c1 o1 ⟨i, e, q⟩ => by
    subst e
    cases o1
    exact ⟨i, rfl, p _ _ F1 H1 S1 e1 c1 q⟩
theorem rg_2 {Q : Int → Int → Sto → Prop} (h : dE K ta Γ S fun x S1 => dE K tb Γ S1 fun y S2 => ∃ i j, x = .d (.int i) ∧ y = .d (.int j) ∧ Q i j S2) : dRg K (tRg2 ta tb) Γ S Q := fun σ F H s c Q' p =>
  h σ F H s c _ fun v F1 H1 x S1 e1 c1 o1 h1 => h1 σ F1 H1 (s.mono e1) c1 _ fun u F2 H2 y S2 e2 c2 o2 ⟨i, j, ex, ey, q⟩ => by
    subst ex; subst ey
    cases o2; cases o1
    exact ⟨i, j, rfl, rfl, p _ _ F2 H2 S2 (e1.trans e2) c2 q⟩
def rgA (a b : Int) : List Va := (List.range (b - a).toNat).map fun i => Va.d (.int (a + (i : Nat)))
theorem rgA_p {F : Hp} (a b : Int) : Paired (VaOk K F) (rgA a b) (rgV a b) := by
  unfold rgA rgV
  generalize List.range (b - a).toNat = l
  induction l with
  | nil => exact .nil
  | cons n l ih =>
    rw [List.map_cons, List.map_cons]
    exact .cons (okD (.int _)) ih
theorem d_listRg {t : L2.St → Hp → (Int → Int → Hp → Prop) → Prop} (h : dRg K t Γ S fun a b S1 => RgOk a b ∧ ∀ p, Q (.r p) ((p, .lst (rgA a b)) :: S1)) : dE K (tLstRg t) Γ S Q := fun σ F H s c Q' p =>
  h σ F H s c _ fun a b F1 H1 S1 e1 c1 ⟨hr, q⟩ => ⟨hr, fun l hl => p _ F1 _ _ _ e1 (c1.newL hl (rgA_p a b)) okR (q l)⟩
/-! ### methods -/
theorem m_append {a : Addr} {xs : List Va} (h : ∃ S', Upd S a (.lst xs) (.lst (xs ++ [y])) S' ∧ xs.length < sizeLine ∧ Q (.d .none) S') : dRM K rAppend (.r a) [y] S Q := fun v vs F H c o1 o2 Q' p => by
  obtain ⟨S', u, hz, q⟩ := h
  cases o1
  obtain _ | ⟨oy, _ | _⟩ := o2
  obtain ⟨vs, e, r⟩ := c.ok _ u.mem
  exact ⟨a, vs, _, rfl, rfl, e, by rw [← plen r]; exact hz, p _ F _ _ _ (.refl F) (c.updL u (papp r (.cons oy .nil))) (okD .non) q⟩
theorem m_popAt {a : Addr} {xs : List Va} {i : Int} (h : ∃ S' k z, Upd S a (.lst xs) (.lst (xs.eraseIdx k)) S' ∧ -(2 ^ 63) ≤ i ∧ i < 2 ^ 63 ∧ seqIndex? i xs.length = some k ∧ xs[k]? = some z ∧ Q z S') : dRM K rPopAt (.r a) [.d (.int i)] S Q := fun v vs F H c o1 o2 Q' p => by
  obtain ⟨S', k, z, u, h1, h2, hk, hz, q⟩ := h
  cases o1
  obtain _ | ⟨oy, _ | _⟩ := o2
  cases oy
  obtain ⟨vs, e, r⟩ := c.ok _ u.mem
  obtain ⟨w, hw, rw_⟩ := pget r hz
  exact ⟨a, vs, i, k, w, rfl, rfl, e, h1, h2, by rw [← plen r]; exact hk, hw, p _ F _ _ _ (.refl F) (c.updL u (perase k r)) rw_ q⟩
theorem r_index {ds : List PyData} {d z : PyData} {j : Nat} (hx : Sees S x (.list ds)) (hy : Sees S y d) (fds : ds.all flatD = true) (fd : flatD d = true) (hz : ds[j]? = some z) (e : PyData.eqv z d = true) (no : ∀ m z', m < j → ds[m]? = some z' → PyData.eqv z' d = false)
    (q : Q (.d (.int (j : Nat))) S) : dRM K (rIndex K) x [y] S Q := fun v vs F H c o1 o2 Q' p => by
  obtain _ | ⟨oy, _ | _⟩ := o2
  have a1 := hx.at_ c o1
  have a2 := hy.at_ c oy
  cases a1 with
  | lst h t =>
    have tt := atAll_to t
    obtain ⟨w, hw, aw⟩ := pgetr tt hz
    refine ⟨_, _, _, j, w, rfl, rfl, h, at_flat a2 fd, at_flats t fds, hw, ?_, fun m z' hm hz' => ?_, p _ F H _ S (.refl F) c (okD (.int _)) q⟩
    · rw [eqV_eqv aw a2 (List.all_eq_true.mp fds _ (List.mem_of_getElem? hz)) fd]
      exact e
    · obtain ⟨d', hd', ad'⟩ := pget tt hz'
      rw [eqV_eqv ad' a2 (List.all_eq_true.mp fds _ (List.mem_of_getElem? hd')) fd]
      exact no m d' hm hd'
/-! ### sorted, all, any, sum of read lists -/
theorem ints_of {F : Hp} : ∀ {ns : List Int} {vs : List V}, AtAll K F vs (ns.map PyData.int) → vs = ns.map V.int
  | [], _, h => by cases h; rfl
  | n :: ns, _, h => by
    cases h with
    | cons h t =>
      cases h
      rw [List.map_cons, ints_of t]
theorem ints_at {F : Hp} : ∀ ns : List Int, Paired (VaOk K F) (ns.map fun n => Va.d (.int n)) (ns.map V.int)
  | [] => .nil
  | n :: ns => .cons (okD (.int n)) (ints_at ns)
theorem bools_of {F : Hp} : ∀ {ns : List Bool} {vs : List V}, AtAll K F vs (ns.map PyData.bool) → vs = ns.map V.bl
  | [], _, h => by cases h; rfl
  | n :: ns, _, h => by
    cases h with
    | cons h t =>
      cases h
      rw [List.map_cons, bools_of t]
theorem r_sorted {ns : List Int} (h : Sees S x (.list (ns.map .int))) (hz : ns.length < 64) (q : ∀ (ns' : List Int) p, ns'.Perm ns → ns'.Pairwise (· ≤ ·) → Q (.r p) ((p, .lst (ns'.map fun n => .d (.int n))) :: S)) : dRL K (rSorted K) [x] S Q := fun vs F H c o Q' p => by
  obtain _ | ⟨o1, _ | _⟩ := o
  have a1 := h.at_ c o1
  cases a1 with
  | lst h t =>
    have e := ints_of t
    subst e
    exact ⟨_, ns, rfl, h, hz, fun ns' l pm pw hl => p _ F _ _ _ (.refl F) (c.newL hl (ints_at ns')) okR (q ns' l pm pw)⟩
theorem r_all {bs : List Bool} (h : Sees S x (.list (bs.map .bool))) (q : Q (.d (.bool (bs.all id))) S) : dRL K (rAll K) [x] S Q := fun vs F H c o Q' p => by
  obtain _ | ⟨o1, _ | _⟩ := o
  have a1 := h.at_ c o1
  cases a1 with
  | lst h t =>
    have e := bools_of t
    subst e
    exact ⟨_, bs, rfl, h, p _ F H _ S (.refl F) c (okD (.bl _)) q⟩
theorem r_any {bs : List Bool} (h : Sees S x (.list (bs.map .bool))) (q : Q (.d (.bool (bs.any id))) S) : dRL K (rAny K) [x] S Q := fun vs F H c o Q' p => by
  obtain _ | ⟨o1, _ | _⟩ := o
  have a1 := h.at_ c o1
  cases a1 with
  | lst h t =>
    have e := bools_of t
    subst e
    exact ⟨_, bs, rfl, h, p _ F H _ S (.refl F) c (okD (.bl _)) q⟩
/-! ### isinstance with a built-in class -/
def tyD : PyData → String
  | .none => "NoneType"
  | .bool _ => "bool"
  | .int _ => "int"
  | .str _ => "str"
  | .list _ => "list"
  | .tuple _ => "tuple"
  | .dict _ => "dict"
theorem rd_ty {H : Hp} {a : Addr} {xs : List V} (h : SqL K H a xs) : TyX K H (.ref a) (.type "list") := by
  rcases h with (h | ⟨o, h⟩) | ⟨o, its, n, h, hc, _⟩
  · exact .base (.lst h)
  · exact .base (.frz h)
  · exact .kList h hc
theorem rd_tyT {H : Hp} {a : Addr} {xs : List V} (h : SqT K H a xs) : TyX K H (.ref a) (.type "tuple") := by
  rcases h with (h | ⟨o, h⟩) | ⟨o, its, n, h, hc, _⟩
  · exact .base (.tup h)
  · exact .fTuple h
  · exact .kTuple h hc
theorem At.ty {H : Hp} {v : V} {d : PyData} (h : At K H v d) : TyX K H v (.type (tyD d)) := by
  cases h with
  | non => exact .base .non
  | bl b => exact .base (.bl b)
  | int i => exact .base (.int i)
  | str x => exact .base (.str x)
  | lst h t => exact rd_ty h
  | tup h t => exact rd_tyT (SqT.of h)
  | dct h t => exact .base (.dK h)
theorem r_isi {d : PyData} {T : String} {b : Bool} (h : Sees S x d) (hk : PySem.W.kitOne K (.type (tyD d)) (.type T) = some b) (q : Q (.d (.bool b)) S) : dRL K (rIsi K) [x, .o (.ty T)] S Q := fun vs F H c o Q' p => by
  obtain _ | ⟨o1, _ | ⟨o2, _ | _⟩⟩ := o
  cases o2
  exact ⟨_, _, _, _, b, rfl, .ty T, (h.at_ c o1).ty, hk, p _ F H _ S (.refl F) c (okD (.bl _)) q⟩
end
end DL

namespace DL
open PySem PySem.Spec PyProof.Rows L2

section
variable {K : PySem.W.Frag} {F F' H H' : Hp} {S S' : Sto} {Γ : Env} {x y z : Va} {v : V} {Q : QE} {te ta tb tc : TE} {N : DEnds}
/-! ### freezing, dropping -/
theorem Cf.sub (c : Cf K S F H) (h : S'.Sublist S) : Cf K S' F H :=
  ⟨c.ex, (h.map (·.1)).nodup c.nd, fun p hp => c.fr p (h.subset hp), fun p hp => c.ok p (h.subset hp)⟩
inductive Frz : Va → Sto → PyData → Sto → Prop
  | d {d : PyData} {S : Sto} : Frz (.d d) S d S
  | l {a : Addr} {ds : List PyData} {S : Sto} : Frz (.r a) ((a, .lst (ds.map .d)) :: S) (.list ds) S
  | t {a : Addr} {ds : List PyData} {S : Sto} : Frz (.r a) ((a, .tup (ds.map .d)) :: S) (.tuple ds) S
  | drop {x : Va} {d : PyData} {q : Addr × Ce} {S S' : Sto} : Frz x S d S' → Frz x (q :: S) d S'
  | less {x : Va} {d : PyData} {S S' S2 : Sto} : Frz x S d S' → S2.Sublist S' → Frz x S d S2
theorem Frz.ok {x : Va} {S S' : Sto} {d : PyData} (z : Frz x S d S') : ∀ {F : Hp}, Cf K S F H → VaOk K F x v → ∃ F', Same F F' ∧ Cf K S' F' H ∧ VaOk K F' (.d d) v := by
  induction z with
  | d => exact fun c o => ⟨_, .refl _, c, o⟩
  | l =>
    intro F c o
    obtain ⟨F', e, c', a⟩ := c.frzL
    cases o
    exact ⟨F', e, c', a⟩
  | t =>
    intro F c o
    obtain ⟨F', e, c', a⟩ := c.frzT
    cases o
    exact ⟨F', e, c', a⟩
  | drop _ ih => exact fun c o => ih c.tail o
  | less _ h ih =>
    intro F c o
    obtain ⟨F', e, c', a⟩ := ih c o
    exact ⟨F', e, c'.sub h, a⟩
theorem d_frz (h : dE K te Γ S fun x S' => ∃ d S2, Frz x S' d S2 ∧ Q (.d d) S2) : dE K te Γ S Q := fun σ F H s c Q' p =>
  h σ F H s c _ fun v F1 H1 x S1 e1 c1 o1 ⟨d, S2, z, q⟩ => by
    obtain ⟨F2, e2, c2, o2⟩ := z.ok c1 o1
    exact p v F2 H1 _ S2 (e1.trans e2) c2 o2 q
theorem s_weak {ts : TS} (h : S'.Sublist S) (q : dS K ts N Γ S') : dS K ts N Γ S := fun σ F H s c D o => q σ F H s (c.sub h) D o
theorem pself {α β : Type} {R : α → β → Prop} : ∀ {xs : List α} {ys : List β} (i : Nat) {x : α} {y : β}, Paired R xs ys → ys[i]? = some y → R x y → Paired R (xs.set i x) ys
  | _, _, _, _, _, .nil, e, _ => by simp at e
  | _, _, 0, _, _, .cons _ t, e, r => by simp at e; subst e; exact .cons r t
  | _, _, i + 1, _, _, .cons q t, e, r => .cons q (pself i t (by simpa using e) r)
/-- a name's cell is frozen -/
theorem s_frz {ts : TS} {i : Nat} {a : Addr} {d : PyData} (hi : Γ[i]? = some (some (.r a))) (z : Frz (.r a) S d S') (q : dS K ts N (Γ.set i (some (.d d))) S') : dS K ts N Γ S := fun σ F H s c D o => by
  obtain ⟨w, e, ow⟩ := s.get hi
  obtain ⟨F', e1, c1, o1⟩ := z.ok c ow
  exact q σ F' H (pself i (s.mono e1) e ⟨w, rfl, o1⟩) c1 D (o.mono e1)
/-- a name may be forgotten -/
theorem s_forget {ts : TS} {i : Nat} (q : dS K ts N (Γ.set i none) S) : dS K ts N Γ S := fun σ F H s c D o => by
  refine q σ F H ?_ c D o
  by_cases hi : i < Γ.length
  · have hs : i < σ.length := by rw [← plen s]; exact hi
    exact pself i s (List.getElem?_eq_getElem hs) trivial
  · rw [List.set_eq_of_length_le (by omega)]
    exact s

/-! ### what is walked -/
/-- n turns; Ok: what must stay of the store; Y: the item of a turn, the store with it -/
def dIt (K : PySem.W.Frag) (F0 : Hp) (J : It) (n : Nat) (Ok : Sto → Prop) (Y : Nat → Va → Sto → Sto → Prop) : Prop :=
  ∀ i F H S, Same F0 F → Cf K S F H → Ok S → (n ≤ i → J.stop i H) ∧ (i < n → J.go i H ∧ ∀ w H', J.yld i H w H' → ∃ F' S' y, Same F F' ∧ Cf K S' F' H' ∧ VaOk K F' y w ∧ Y i y S S')
def dI (K : PySem.W.Frag) (wi : TI) (Γ : Env) (S : Sto) (R : Nat → (Sto → Prop) → (Nat → Va → Sto → Sto → Prop) → Sto → Prop) : Prop :=
  ∀ σ F H, Slots K F Γ σ → Cf K S F H → ∀ R' : It → Hp → Prop, (∀ J n Ok Y F' H' S', Same F F' → Cf K S' F' H' → dIt K F' J n Ok Y → R n Ok Y S' → R' J H') → wi σ H R'
theorem dIt_range {F0 : Hp} {lo : Int} {n : Nat} : dIt K F0 (Itr lo n) n (fun _ => True) (fun i y S S' => y = .d (.int (lo + (i : Nat))) ∧ S' = S) := fun i F H S _ c _ =>
  ⟨fun h => h, fun h => ⟨h, fun w H' ⟨e, ew⟩ => by
    subst e; subst ew
    exact ⟨F, S, _, .refl F, c, okD (.int _), rfl, rfl⟩⟩⟩
theorem i_range1 {t : TA} {R} (h : dA K t Γ S fun xs S1 => ∃ j : Int, xs = [.d (.int j)] ∧ -(2 ^ 62) ≤ j ∧ j < 2 ^ 62 ∧ R j.toNat (fun _ => True) (fun i y S S' => y = .d (.int (i : Nat)) ∧ S' = S) S1) : dI K (iRng1 t) Γ S R := fun σ F H s c R' p =>
  h σ F H s c _ fun vs F1 H1 xs S1 e1 c1 o1 ⟨j, e, h1, h2, q⟩ => by
    subst e
    obtain _ | ⟨oy, _ | _⟩ := o1
    cases oy
    refine ⟨j, rfl, h1, h2, p _ _ _ _ F1 H1 S1 e1 c1 ?_ q⟩
    intro i F H S e c k
    obtain ⟨a, b⟩ := dIt_range (lo := 0) (n := j.toNat) i F H S e c k
    refine ⟨a, fun hi => ⟨(b hi).1, fun w H' hy => ?_⟩⟩
    obtain ⟨F', S', y, e1, c1, o, ey, es⟩ := (b hi).2 w H' hy
    exact ⟨F', S', y, e1, c1, o, by rw [ey, Int.zero_add], es⟩
theorem i_range2 {t : TA} {R} (h : dA K t Γ S fun xs S1 => ∃ a b : Int, xs = [.d (.int a), .d (.int b)] ∧ (-(2 ^ 62) ≤ a ∧ a < 2 ^ 62 ∧ -(2 ^ 62) ≤ b ∧ b < 2 ^ 62) ∧ R (b - a).toNat (fun _ => True) (fun i y S S' => y = .d (.int (a + (i : Nat))) ∧ S' = S) S1) : dI K (iRng2 t) Γ S R := fun σ F H s c R' p =>
  h σ F H s c _ fun vs F1 H1 xs S1 e1 c1 o1 ⟨a, b, e, h1, q⟩ => by
    subst e
    obtain _ | ⟨oy, _ | ⟨oz, _ | _⟩⟩ := o1
    cases oy; cases oz
    exact ⟨a, b, rfl, h1, p _ _ _ _ F1 H1 S1 e1 c1 dIt_range q⟩
theorem i_list {R} (h : dE K te Γ S fun x S1 => ∃ xs, Lst S1 x xs ∧ R xs.length (fun S => Lst S x xs) (fun i y S S' => xs[i]? = some y ∧ S' = S) S1) : dI K (iList K te) Γ S R := fun σ F H s c R' p =>
  h σ F H s c _ fun w F1 H1 x S1 e1 c1 o1 ⟨xs, hl, q⟩ => by
    obtain ⟨a, vs, rfl, h1, h2⟩ := hl.at_ c1 o1
    refine ⟨a, rfl, ⟨vs, h1⟩, p _ _ _ _ F1 H1 S1 e1 c1 ?_ q⟩
    intro i F H S e c k
    obtain ⟨a', vs', ea, h3, h4⟩ := k.at_ c (o1.mono e)
    cases ea
    refine ⟨fun hi => ⟨vs', h3, by rw [← plen h4]; exact hi⟩, fun hi => ?_⟩
    obtain ⟨u, hu, ou⟩ := pget h4 (List.getElem?_eq_getElem hi)
    refine ⟨⟨vs', u, h3, hu⟩, fun w H' ⟨eh, f⟩ => ?_⟩
    subst eh
    have := f vs' h3
    rw [hu] at this
    cases this
    exact ⟨F, S, _, .refl F, c, ou, List.getElem?_eq_getElem hi, rfl⟩
theorem i_tup {R} (h : dE K te Γ S fun x S1 => ∃ xs, Tpl S1 x xs ∧ R xs.length (fun S => Tpl S x xs) (fun i y S S' => xs[i]? = some y ∧ S' = S) S1) : dI K (iTup K te) Γ S R := fun σ F H s c R' p =>
  h σ F H s c _ fun w F1 H1 x S1 e1 c1 o1 ⟨xs, hl, q⟩ => by
    obtain ⟨a, vs, rfl, h1, h2⟩ := hl.at_ c1 o1
    refine ⟨a, rfl, ⟨vs, h1⟩, p _ _ _ _ F1 H1 S1 e1 c1 ?_ q⟩
    intro i F H S e c k
    obtain ⟨a', vs', ea, h3, h4⟩ := k.at_ c (o1.mono e)
    cases ea
    refine ⟨fun hi => ⟨vs', h3, by rw [← plen h4]; exact hi⟩, fun hi => ?_⟩
    obtain ⟨u, hu, ou⟩ := pget h4 (List.getElem?_eq_getElem hi)
    refine ⟨⟨vs', u, h3, hu⟩, fun w H' ⟨eh, f⟩ => ?_⟩
    subst eh
    have := f vs' h3
    rw [hu] at this
    cases this
    exact ⟨F, S, _, .refl F, c, ou, List.getElem?_eq_getElem hi, rfl⟩
theorem i_enum {t : TA} {R} (h : dA K t Γ S fun zs S1 => ∃ x xs, zs = [x] ∧ Lst S1 x xs ∧ R xs.length (fun S => Lst S x xs) (fun i y S S' => ∃ T z, xs[i]? = some z ∧ y = .r T ∧ S' = (T, .tup [.d (.int (i : Nat)), z]) :: S) S1) : dI K (iEnum K t) Γ S R := fun σ F H s c R' p =>
  h σ F H s c _ fun ws F1 H1 zs S1 e1 c1 o1 ⟨x, xs, ez, hl, q⟩ => by
    subst ez
    obtain _ | ⟨o1, _ | _⟩ := o1
    obtain ⟨a, vs, rfl, h1, h2⟩ := hl.at_ c1 o1
    refine ⟨a, vs, rfl, h1, p _ _ _ _ F1 H1 S1 e1 c1 ?_ q⟩
    intro i F H S e c k
    obtain ⟨a', vs', ea, h3, h4⟩ := k.at_ c (o1.mono e)
    cases ea
    refine ⟨fun hi => ⟨vs', h3, by rw [← plen h4]; exact hi⟩, fun hi => ?_⟩
    obtain ⟨u, hu, ou⟩ := pget h4 (List.getElem?_eq_getElem hi)
    refine ⟨⟨vs', u, h3, hu⟩, fun w H' ⟨T, u', ew, hT, eh, f⟩ => ?_⟩
    subst eh; subst ew
    have := f vs' h3
    rw [hu] at this
    cases this
    exact ⟨F, _, _, .refl F, c.newT hT (.cons (okD (.int _)) (.cons ou .nil)), okR, T, _, List.getElem?_eq_getElem hi, rfl, rfl⟩
theorem i_zip {t : TA} {R} (h : dA K t Γ S fun zs S1 => ∃ x x' xs ys, zs = [x, x'] ∧ Lst S1 x xs ∧ Lst S1 x' ys ∧ xs.length = ys.length ∧ R xs.length (fun S => Lst S x xs ∧ Lst S x' ys) (fun i y S S' => ∃ T z z', xs[i]? = some z ∧ ys[i]? = some z' ∧ y = .r T ∧ S' = (T, .tup [z, z']) :: S) S1) : dI K (iZip K t) Γ S R := fun σ F H s c R' p =>
  h σ F H s c _ fun ws F1 H1 zs S1 e1 c1 o1 ⟨x, x', xs, ys, ez, hl, hl', hlen, q⟩ => by
    subst ez
    obtain _ | ⟨o1, _ | ⟨o1', _ | _⟩⟩ := o1
    obtain ⟨a, vs, rfl, h1, h2⟩ := hl.at_ c1 o1
    obtain ⟨b, us, rfl, h1', h2'⟩ := hl'.at_ c1 o1'
    refine ⟨a, b, vs, us, rfl, h1, h1', p _ _ _ _ F1 H1 S1 e1 c1 ?_ q⟩
    intro i F H S e c k
    obtain ⟨a', vs', ea, h3, h4⟩ := k.1.at_ c (o1.mono e)
    cases ea
    obtain ⟨b', us', eb, h3', h4'⟩ := k.2.at_ c (o1'.mono e)
    cases eb
    refine ⟨fun hi => ⟨vs', us', h3, h3', .inl (by rw [← plen h4]; exact hi)⟩, fun hi => ?_⟩
    obtain ⟨u, hu, ou⟩ := pget h4 (List.getElem?_eq_getElem hi)
    have hi' : i < ys.length := by rw [← hlen]; exact hi
    obtain ⟨u', hu', ou'⟩ := pget h4' (List.getElem?_eq_getElem hi')
    refine ⟨⟨vs', us', u, u', h3, h3', hu, hu'⟩, fun w H' ⟨T, u1, u2, ew, hT, eh, f, f'⟩ => ?_⟩
    subst eh; subst ew
    have := f vs' h3
    rw [hu] at this
    cases this
    have := f' us' h3'
    rw [hu'] at this
    cases this
    exact ⟨F, _, _, .refl F, c.newT hT (.cons ou (.cons ou' .nil)), okR, T, _, _, List.getElem?_eq_getElem hi, List.getElem?_eq_getElem hi', rfl, rfl⟩
/-! ### for -/
theorem s_for {wi : TI} {g : TG} {tb : TS} (h : dI K wi Γ S fun n Ok Y S1 => ∃ I : Nat → Env → Sto → Prop, I 0 Γ S1 ∧ (∀ i Γ' S', I i Γ' S' → Ok S') ∧
    (∀ i Γ' S' y S2, i < n → I i Γ' S' → Y i y S' S2 → dG K g y Γ' S2 fun Γ2 S3 => dS K tb { nx := I (i + 1), ct := I (i + 1), bk := N.nx, rt := N.rt } Γ2 S3) ∧ ∀ Γ' S', I n Γ' S' → N.nx Γ' S') : dS K (tFor wi g tb) N Γ S := fun σ F H s c D o =>
  h σ F H s c _ fun J n Ok Y F1 H1 S1 e1 c1 hJ ⟨I, i0, hok, step, fin⟩ => by
    refine ⟨fun i m σ' H' => m = n - i ∧ i ≤ n ∧ ∃ F2 Γ2 S2, Same F1 F2 ∧ Slots K F2 Γ2 σ' ∧ Cf K S2 F2 H' ∧ I i Γ2 S2, ⟨_, rfl, Nat.zero_le _, F1, Γ, S1, .refl _, s.mono e1, c1, i0⟩, ?_⟩
    rintro i m σ' H' ⟨rfl, hi, F2, Γ2, S2, e2, s2, c2, i2⟩
    obtain ⟨st, go⟩ := hJ i F2 H' S2 e2 c2 (hok i Γ2 S2 i2)
    by_cases hlt : i < n
    · obtain ⟨g1, g2⟩ := go hlt
      refine .inr ⟨g1, fun σ3 H3 => ∃ F3 Γ3 S3, Same F1 F3 ∧ Slots K F3 Γ3 σ3 ∧ Cf K S3 F3 H3 ∧ I (i + 1) Γ3 S3, fun σ3 H3 p => ⟨n - (i + 1), by omega, rfl, hlt, p⟩, fun w H3 hy => ?_⟩
      obtain ⟨F3, S3, y, e3, c3, o3, y3⟩ := g2 w H3 hy
      have e13 := e2.trans e3
      refine step i Γ2 S2 y S3 hlt i2 y3 w σ' F3 H3 (s2.mono e3) c3 o3 _ fun σ4 F4 H4 Γ4 S4 e4 s4 c4 q => ?_
      have e14 := e13.trans e4
      exact q σ4 F4 H4 s4 c4 _ ⟨fun σ5 F5 H5 Γ5 S5 e5 s5 c5 q5 => ⟨F5, Γ5, S5, e14.trans e5, s5, c5, q5⟩, o.rt.mono (e1.trans e14), o.nx.mono (e1.trans e14), fun σ5 F5 H5 Γ5 S5 e5 s5 c5 q5 => ⟨F5, Γ5, S5, e14.trans e5, s5, c5, q5⟩⟩
    · have e : i = n := by omega
      subst e
      exact .inl ⟨st (Nat.le_refl _), o.nx.mono (e1.trans e2) σ' F2 H' Γ2 S2 (.refl F2) s2 c2 (fin Γ2 S2 i2)⟩
/-! ### comprehensions -/
def wipeA (Γ : Env) : List Nat → Env
  | [] => Γ
  | v :: vs => (wipeA Γ vs).set v none
theorem Slots.wipe {σ : L2.St} (s : Slots K F Γ σ) : ∀ vs : List Nat, Slots K F (wipeA Γ vs) (wipe σ vs)
  | [] => s
  | v :: vs => pset (R := Sl K F) (x := none) (y := none) trivial v (Slots.wipe s vs)
theorem set_comm' {α : Type} (l : List α) (i j : Nat) (a b : α) (h : i ≠ j) : (l.set i a).set j b = (l.set j b).set i a := List.set_comm _ _ h
theorem wipe_set {σ : L2.St} {i : Nat} {w : Option V} : ∀ {vs : List Nat}, i ∈ vs → wipe (σ.set i w) vs = wipe σ vs
  | v :: vs, h => by
    by_cases hi : i ∈ vs
    · show (wipe (σ.set i w) vs).set v none = (wipe σ vs).set v none
      rw [wipe_set hi]
    · have e : i = v := by
        rcases List.mem_cons.mp h with e | e
        · exact e
        · exact absurd e hi
      subst e
      have : ∀ ws : List Nat, i ∉ ws → wipe (σ.set i w) ws = (wipe σ ws).set i w := fun ws => by
        induction ws with
        | nil => intro _; rfl
        | cons u us ih =>
          intro hn
          have h1 : i ≠ u := fun z => hn (by rw [z]; exact List.mem_cons_self)
          have h2 : i ∉ us := fun z => hn (List.mem_cons_of_mem _ z)
          show (wipe (σ.set i w) us).set u none = ((wipe σ us).set u none).set i w
          rw [ih h2, List.set_comm _ _ h1]
      show (wipe (σ.set i w) vs).set i none = (wipe σ vs).set i none
      rw [this vs hi, List.set_set]
theorem wipe_wipe {σ : L2.St} {ws : List Nat} : ∀ vs : List Nat, (∀ v ∈ vs, v ∈ ws) → wipe (wipe σ vs) ws = wipe σ ws
  | [], _ => rfl
  | v :: vs, h => by
    show wipe ((wipe σ vs).set v none) ws = wipe σ ws
    rw [wipe_set (h v List.mem_cons_self), wipe_wipe vs fun u hu => h u (List.mem_cons_of_mem _ hu)]
/-- the target stores nothing but the block's own names -/
def gW (g : TG) (ws : List Nat) : Prop := ∀ v σ H Q, g v σ H Q → g v σ H fun σ2 H2 => wipe σ2 ws = wipe σ ws ∧ Q σ2 H2
def gWs (g : TGs) (ws : List Nat) : Prop := ∀ vs σ H Q, g vs σ H Q → g vs σ H fun σ2 H2 => wipe σ2 ws = wipe σ ws ∧ Q σ2 H2
theorem gw_name {i : Nat} {ws : List Nat} (h : i ∈ ws) : gW (gName i) ws := fun v σ H Q q => ⟨wipe_set h, q⟩
theorem gw_nil {ws : List Nat} : gWs gNil ws := fun vs σ H Q ⟨e, q⟩ => ⟨e, rfl, q⟩
theorem gw_cons {i : Nat} {u : TGs} {ws : List Nat} (h : i ∈ ws) (h2 : gWs u ws) : gWs (gCons (gName i) u) ws := fun vs σ H Q ⟨v, r, e, q⟩ => by
  refine ⟨v, r, e, ?_⟩
  have := h2 r (σ.set i (some v)) H Q q
  rw [wipe_set h] at this
  exact this
theorem gw_tup {k : Nat} {u : TGs} {ws : List Nat} (h2 : gWs u ws) : gW (gTup K k u) ws := fun v σ H Q ⟨a, xs, e, h1, h3, q⟩ => ⟨a, xs, e, h1, h3, h2 xs σ H Q q⟩
theorem d_lc {wi : TI} {g : TG} {tt : TT} {ws : List Nat} (hg : gW g ws) (h : dI K wi Γ S fun n Ok Y S1 => ∀ D, ∃ I : Nat → Sto → Prop, I 0 ((D, .lst []) :: S1) ∧ (∀ i S', I i S' → Ok S') ∧
    (∀ i S' y S2, i < n → I i S' → Y i y S' S2 → dG K g y (wipeA Γ ws) S2 fun Γ2 S3 => dT K tt Γ2 S3 fun b S4 => (b = true → dE K te Γ2 S4 fun z S5 => ∃ acc S6, Upd S5 D (.lst acc) (.lst (acc ++ [z])) S6 ∧ acc.length < sizeLine ∧ I (i + 1) S6) ∧ (b = false → I (i + 1) S4)) ∧
    ∀ S', I n S' → Q (.r D) S') : dE K (tLc wi g tt te ws) Γ S Q := fun σ F H s c Q' p =>
  h σ F H s c _ fun J n Ok Y F1 H1 S1 e1 c1 hJ hh D hD => by
    obtain ⟨I, i0, hok, step, fin⟩ := hh D
    refine ⟨fun i m H' => m = n - i ∧ i ≤ n ∧ ∃ F2 S2, Same F1 F2 ∧ Cf K S2 F2 H' ∧ I i S2, ⟨_, rfl, Nat.zero_le _, F1, _, .refl _, c1.newL hD .nil, i0⟩, ?_⟩
    rintro i m H' ⟨rfl, hi, F2, S2, e2, c2, i2⟩
    obtain ⟨st, go⟩ := hJ i F2 H' S2 e2 c2 (hok i S2 i2)
    by_cases hlt : i < n
    · obtain ⟨g1, g2⟩ := go hlt
      refine .inr ⟨g1, fun H3 => ∃ F3 S3, Same F1 F3 ∧ Cf K S3 F3 H3 ∧ I (i + 1) S3, fun H3 p => ⟨n - (i + 1), by omega, rfl, hlt, p⟩, fun w H3 hy => ?_⟩
      obtain ⟨F3, S3, y, e3, c3, o3, y3⟩ := g2 w H3 hy
      have e13 := e2.trans e3
      have sw : Slots K F3 (wipeA Γ ws) (wipe σ ws) := Slots.wipe (s.mono (e1.trans e13)) ws
      have w0 : wipe (wipe σ ws) ws = wipe σ ws := wipe_wipe ws fun _ h => h
      have := hg w (wipe σ ws) H3 _ (step i S2 y S3 hlt i2 y3 w (wipe σ ws) F3 H3 sw c3 o3 (fun σ4 H4 => tt σ4 H4 fun b H5 =>
        if b = true then te σ4 H5 fun y H6 => ∃ acc, H6 D = some (.lst acc) ∧ acc.length < sizeLine ∧ ∃ F3 S3, Same F1 F3 ∧ Cf K S3 F3 (upd H6 D (.lst (acc ++ [y]))) ∧ I (i + 1) S3 else ∃ F3 S3, Same F1 F3 ∧ Cf K S3 F3 H5 ∧ I (i + 1) S3)
        fun σ4 F4 H4 Γ4 S4 e4 s4 c4 q => ?_)
      · rw [w0] at this
        exact this
      · refine q σ4 F4 H4 s4 c4 _ fun b F5 H5 S5 e5 c5 ⟨q1, q2⟩ => ?_
        have e15 := (e13.trans e4).trans e5
        cases b with
        | true =>
          rw [if_pos rfl]
          refine q1 rfl σ4 F5 H5 (s4.mono e5) c5 _ fun w6 F6 H6 z6 S6 e6 c6 o6 ⟨acc, S7, u, hz, i7⟩ => ?_
          obtain ⟨vs, ev, r⟩ := c6.ok _ u.mem
          exact ⟨vs, ev, by rw [← plen r]; exact hz, F6, S7, e15.trans e6, c6.updL u (papp r (.cons o6 .nil)), i7⟩
        | false =>
          rw [if_neg Bool.false_ne_true]
          exact ⟨F5, S5, e15, c5, q2 rfl⟩
    · have e : i = n := by omega
      subst e
      exact .inl ⟨st (Nat.le_refl _), p _ F2 H' _ S2 (e1.trans e2) c2 okR (fin S2 i2)⟩
/-- each element frozen: [f 0, f 1, ..] -/
theorem d_map {wi : TI} {g : TG} {ws : List Nat} (hg : gW g ws) (h : dI K wi Γ S fun n Ok Y S1 => n < sizeLine ∧ (∀ D acc, Ok ((D, .lst acc) :: S1)) ∧ ∃ f : Nat → PyData,
    (∀ D i acc y S2, i < n → Y i y ((D, .lst acc) :: S1) S2 → dG K g y (wipeA Γ ws) S2 fun Γ2 S3 => dE K te Γ2 S3 fun z S5 => Frz z S5 (f i) ((D, .lst acc) :: S1)) ∧
    ∀ D, Q (.r D) ((D, .lst ((List.range n).map fun i => .d (f i))) :: S1)) : dE K (tLc wi g tYes te ws) Γ S Q :=
  d_lc hg fun σ F H s c R' p => h σ F H s c R' fun J n Ok Y F1 H1 S1 e1 c1 hJ ⟨hn, hok, f, step, fin⟩ => p J n Ok Y F1 H1 S1 e1 c1 hJ fun D => by
    refine ⟨fun i S' => S' = (D, .lst ((List.range i).map fun i => .d (f i))) :: S1, rfl, fun i S' e => by rw [e]; exact hok D _, fun i S' y S2 hi e hy => ?_, fun S' e => by rw [e]; exact fin D⟩
    subst e
    intro v σ F H s c o Q' p
    refine step D i _ y S2 hi hy v σ F H s c o Q' fun σ' F' H' Γ' S' e s' c' q => p σ' F' H' Γ' S' e s' c' (d_tyes ⟨fun _ => ?_, fun z => by cases z⟩)
    refine d_frz (q.imp fun z S5 fz => ⟨_, _, fz, _, _, .here, ?_, ?_⟩)
    · rw [List.length_map, List.length_range]
      omega
    · show (D, Ce.lst ((List.range i).map (fun i => Va.d (f i)) ++ [Va.d (f i)])) :: S1 = (D, Ce.lst ((List.range (i + 1)).map fun i => Va.d (f i))) :: S1
      rw [List.range_succ, List.map_append]
      rfl
/-! ### a def -/
def startA (N : List Str) (xs : List Va) : Env := xs.map some ++ List.replicate (N.length - xs.length) none
theorem slots_start {N : List Str} {xs : List Va} {vs : List V} (h : Paired (VaOk K F) xs vs) : Slots K F (startA N xs) (L2.start N vs) := by
  unfold startA L2.start
  rw [plen h]
  refine papp ?_ ?_
  · clear N
    induction h with
    | nil => exact .nil
    | cons h _ ih => exact .cons ⟨_, rfl, h⟩ ih
  · generalize N.length - vs.length = k
    induction k with
    | zero => exact .nil
    | succ k ih => exact .cons trivial ih
theorem fn_D {P : Program} {w : World} {mg : Str → Option Value} {base : Heap} {α : Type} {sp : Spec α} {qn qual : Str} {st : Stmt} {f : Addr} {fd : FuncData} {N ps : List Str} {k : Nat} (Fn : Fun K qn qual st f fd) (Sc : FnScope N ps (defScope st))
    (hlen : ∀ a xs S, sp.pre a xs S → xs.length = ps.length)
    (hb : ∀ (cdv : Value) (A : Around) (outer : List PySem.Env) (s : Shared) (H : Hp) (E : XK), Room k (A.deeper (envOfC qual (defScope st) s.heap.objs.size f cdv)) →
      ∃ t, PSs (cxOf CX0 P w K mg base N qual (defScope st) f cdv A outer s H E).nox (defBody st) t ∧ ∀ a xs S, sp.pre a xs S → dS K t { nx := fun _ S' => sp.post a S (.d .none) S', rt := sp.post a S } (startA N xs) S) :
    FnOk P w K mg base CX0 (k + 1) f fd ps (spD K sp) := by
  refine Fn.ok Sc (fun vs H Q E ⟨F, xs, S, a, _, o, pre, _⟩ => by rw [← plen o]; exact hlen a xs S pre) fun cdv A outer s H vs Q E hr ⟨F, xs, S, a, c, o, pre, post⟩ => ?_
  obtain ⟨t, h1, h2⟩ := hb cdv A outer s H E hr
  refine ⟨t, h1, h2 a xs S pre _ F H (slots_start o) c _ ⟨fun σ' F' H' Γ' S' e s' c' q => post _ F' H' _ S' e c' (okD .non) q, post, fun _ _ _ _ _ _ _ _ z => z.elim, fun _ _ _ _ _ _ _ _ z => z.elim⟩⟩
/-! ### the law's end -/
def li (ns : List Int) : PyData := .list (ns.map .int)
def specLaw : Spec (List Int) := ⟨fun ns xs S => xs = [.d (li ns)] ∧ S = [] ∧ ns.length ≤ 63, fun _ _ x _ => x = .d (.bool true)⟩
def spLaw (K : PySem.W.Frag) : Sp := fun vs H Q _ => ∃ (a : Addr) (ns : List Int), vs = [.ref a] ∧ SqL K H a (ns.map V.int) ∧ ns.length ≤ 63 ∧ ∀ H', Q (.bl true) H'
theorem ints_all {H : Hp} : ∀ ns : List Int, AtAll K H (ns.map V.int) (ns.map PyData.int)
  | [] => .nil
  | n :: ns => .cons (.int n) (ints_all ns)
theorem law_of {P : Program} {w : World} {mg : Str → Option Value} {base : Heap} {k : Nat} {f : Addr} {fd : FuncData} {ps : List Str} (G : FnOk P w K mg base CX0 k f fd ps (spD K specLaw)) : FnOk P w K mg base CX0 k f fd ps (spLaw K) :=
  G.imp fun vs H Q E ⟨a, ns, e, h, hz, q⟩ => ⟨H, [.d (li ns)], [], ns, Cf.mk (K := K) (S := []) (F := H) (H := H) (Same.refl H) List.nodup_nil (fun _ h => nomatch h) (fun _ h => nomatch h), by rw [e]; exact .cons (At.lst h (ints_all ns)) .nil, ⟨rfl, rfl, hz⟩, fun v F' H' x S' _ _ o z => by
    cases (show x = _ from z)
    cases o
    exact q H'⟩
end
end DL

namespace DL
open PySem PySem.Spec PyProof.Rows L2

/-- a def of the top, as its callers know it -/
structure Cal (P : Program) (w : World) (K : PySem.W.Frag) (mg : Str → Option Value) (base : Heap) (k : Nat) (nm : Str) (a : Addr) (fd : FuncData) (ps : List Str) (sp : Sp) : Prop where
  G : FnOk P w K mg base CX0 k a fd ps sp
  g : mg nm = some (.ref a)
  kp : PySem.W.keepIn K (.ref a) = true
  b : Binds K fd ps []
/-! ### keywords -/
def kG (np : Nat) (sel : List Nat) (us ws : List Value) : List Value := if us.length = np ∧ ws.length = sel.length then us ++ sel.map (fun j => ws.getD j .none) else []
def kV (np : Nat) (sel : List Nat) (us ws : List V) : List V := if us.length = np ∧ ws.length = sel.length then us ++ sel.map (fun j => ws.getD j .non) else []
theorem getD_p {ws : List V} {us : List Value} (h : Vals ws us) (j : Nat) : RelV (ws.getD j .non) (us.getD j .none) := by
  rw [List.getD_eq_getElem?_getD, List.getD_eq_getElem?_getD]
  cases e : ws[j]? with
  | none =>
    rw [Vals.none_of h e]
    exact rfl
  | some x =>
    obtain ⟨u, e1, r⟩ := pget h e
    rw [e1]
    exact r
theorem kb_mk {K : PySem.W.Frag} {fd : FuncData} {ps ks : List Str} {np : Nat} {sel : List Nat} (hps : ps ≠ []) (h : ∀ us ws : List Value, us.length = np → ws.length = sel.length → bindArgs fd ⟨us, ks.zip ws⟩ = pure (ps.zip (us ++ sel.map fun j => ws.getD j .none))) :
    KBinds K fd ps ks (kG np sel) (kV np sel) where
  to := fun s us ws _ hl => by
    unfold kG at hl ⊢
    by_cases hc : us.length = np ∧ ws.length = sel.length
    · rw [if_pos hc]
      exact .of_eq (h us ws hc.1 hc.2)
    · rw [if_neg hc] at hl
      exact absurd (List.length_eq_zero_iff.mp hl.symm) hps
  rel := fun {vs us zs ws} r rz => by
    unfold kG kV
    rw [r.length, rz.length]
    by_cases hc : us.length = np ∧ ws.length = sel.length
    · rw [if_pos hc, if_pos hc]
      refine r.append ?_
      clear hc h
      induction sel with
      | nil => exact .nil
      | cons j js ih => exact .cons (getD_p rz j) ih
    · rw [if_neg hc, if_neg hc]
      exact .nil
section
variable {X : Cx} {CX : CXT} {k : Nat} {f : Addr} {fd : FuncData} {ps ks : List Str} {sp : Sp} {E : XK} {x : Str} {p pos : Pos} {kws : List Keyword} {tk : TA} {g : List Value → List Value → List Value} {gV : List V → List V → List V}
/-- f(k = v, ..) -/
theorem pe_callK0 (F : FnOk X.prog X.w X.K X.mg X.base CX k f fd ps sp) (hr : Room k X.A) (hg : Gl X x) (hm : X.mg x = some (.ref f)) (hk : PySem.W.keepIn X.K (.ref f) = true) (hb : KBinds X.K fd ps ks g gV) (hx : Passes CX X E)
    (hkw : PK X kws tk) (hall : (backToKw pos (keywordEach kws X.env)).all (·.1.isSome) = true := by rfl) (hks : (backToKw pos (keywordEach kws X.env)).filterMap (·.1) = ks := by rfl)
    (hdb : (x == ("__debug__" : Str)) = false := by decide)
    (hpl : ((backTo pos (starEach [] X.env)).any (·.1) || (backToKw pos (keywordEach kws X.env)).any (·.1.isNone)) = false := by rfl) :
    PE X (.Call (.Name x p) [] kws pos) (tCallK sp gV E tNil tk) := by
  refine ⟨fun pins s σ H Q I h => ?_⟩
  refine wpAny_Call_Name_kw (ld_glob I hg hm ?_ hdb)
  refine PySem.W.callWith_KW0 (h₀ := X.base) I.ok.mod.kin hk hall ?_ hpl
  refine thn (hkw.run pos pins s σ H _ I h) fun ws s2 ⟨zs, H2, I2, rz, q2⟩ => ⟨I2.kIn, ?_⟩
  rw [hks]
  exact run_fnk F hr hb hx I2 .nil rz q2
end
section
variable {K : PySem.W.Frag} {F F' H H' : Hp} {S S' : Sto} {Γ : Env} {x y z : Va} {v : V} {Q : QE} {te ta tb tc : TE} {N : DEnds}
theorem getD_v {ws : List Va} {us : List V} (h : Paired (VaOk K F) ws us) (j : Nat) : VaOk K F (ws.getD j (.d .none)) (us.getD j .non) := by
  rw [List.getD_eq_getElem?_getD, List.getD_eq_getElem?_getD]
  cases e : ws[j]? with
  | none =>
    have : us[j]? = none := by
      rw [List.getElem?_eq_none_iff] at e ⊢
      rw [← plen h]
      exact e
    rw [this]
    exact okD .non
  | some x =>
    obtain ⟨u, e1, r⟩ := pget h e
    rw [e1]
    exact r
theorem d_callK {α : Type} {sp : Spec α} {E : XK} {t tk : TA} {np : Nat} {sel : List Nat} (h : dA K t Γ S fun xs S1 => dA K tk Γ S1 fun zs S2 => (xs.length = np ∧ zs.length = sel.length) ∧ ∃ a, sp.pre a (xs ++ sel.map fun j => zs.getD j (.d .none)) S2 ∧ ∀ x S', sp.post a S2 x S' → Q x S') :
    dE K (tCallK (spD K sp) (kV np sel) E t tk) Γ S Q := fun σ F H s c Q' p =>
  h σ F H s c _ fun vs F1 H1 xs S1 e1 c1 o1 h1 => h1 σ F1 H1 (s.mono e1) c1 _ fun ws F2 H2 zs S2 e2 c2 o2 ⟨⟨l1, l2⟩, a, h2, h3⟩ => by
    have oo : Paired (VaOk K F2) (xs ++ sel.map fun j => zs.getD j (.d .none)) (kV np sel vs ws) := by
      unfold kV
      rw [if_pos ⟨by rw [← plen o1]; exact l1, by rw [← plen o2]; exact l2⟩]
      refine papp (vas_mono e2 o1) ?_
      have key : ∀ js : List Nat, Paired (VaOk K F2) (js.map fun j => zs.getD j (.d .none)) (js.map fun j => ws.getD j .non) := fun js => by
        induction js with
        | nil => exact .nil
        | cons j js ih => exact .cons (getD_v o2 j) ih
      exact key sel
    exact ⟨F2, _, S2, a, c2, oo, h2, fun v F3 H3 x S3 e3 c3 o3 q => p v F3 H3 x S3 ((e1.trans e2).trans e3) c3 o3 (h3 x S3 q)⟩
/-! ### name op= e -/
theorem s_aug {i : Nat} {f : Int → Int → Int} (h : ∃ n : Int, Γ[i]? = some (some (.d (.int n))) ∧ dE K te Γ S fun y S1 => ∃ m, y = .d (.int m) ∧ N.nx (Γ.set i (some (.d (.int (f n m))))) S1) : dS K (tAug i te (ipI f)) N Γ S := fun σ F H s c D o => by
  obtain ⟨n, e, h⟩ := h
  obtain ⟨w, ew, ow⟩ := s.get e
  cases ow
  exact ⟨_, ew, h σ F H s c _ fun v F1 H1 y S1 e1 c1 o1 ⟨m, ey, q⟩ => by
    subst ey
    cases o1
    exact ⟨n, m, rfl, rfl, o.nx _ F1 H1 _ S1 e1 ((s.mono e1).set i (okD (.int _))) c1 q⟩⟩
end
theorem pow3_ok {i : Int} (h : i.natAbs < 2 ^ 250) : CPowW i 3 := by
  have := PyProof.Rows.intBits_le h
  unfold CPowW
  omega
theorem divW_ok {i j : Int} (h0 : 0 < j) (h : j < 2 ^ 8000) : CDivW i j := by
  refine wide_div (b := 8000) h0 ?_ (by decide) (by decide)
  have : (j.natAbs : Int) < 2 ^ 8000 := by omega
  exact Int.ofNat_lt.mp (by rw [Int.natCast_pow]; exact this)
theorem cx_K {CX : CXT} {P : Program} {w : World} {K : PySem.W.Frag} {mg : Str → Option Value} {base : Heap} {N : List Str} {qual : Str} {scope : Scope} {f : Addr} {cd : Value} {A : Around} {outer : List PySem.Env} {s : Shared} {H : Hp} {E : XK} : (cxOf CX P w K mg base N qual scope f cd A outer s H E).K = K := rfl
/-! the ops by name -/
def CPos (_ j : Int) : Prop := 0 < j
theorem op_modP {X : Cx} : OpR X (binaryOp .Mod) (rI CPos fun i j => .int (i % j)) := op_mod
section
variable {K : PySem.W.Frag} {S : Sto} {Q : QE} {i j : Int}
theorem r_mod (h : 0 < j) (q : Q (.d (.int (i % j))) S) : dR2 K (rI CPos fun i j => .int (i % j)) (.d (.int i)) (.d (.int j)) S Q := r_c (C := CPos) h q
theorem r_mulL (h : -(2 ^ 64) < i ∧ i < 2 ^ 64) (q : Q (.d (.int (i * j))) S) : dR2 K (rI CMul fun i j => .int (i * j)) (.d (.int i)) (.d (.int j)) S Q := r_c (C := CMul) (.inl h) q
theorem r_mulR (h : -(2 ^ 64) < j ∧ j < 2 ^ 64) (q : Q (.d (.int (i * j))) S) : dR2 K (rI CMul fun i j => .int (i * j)) (.d (.int i)) (.d (.int j)) S Q := r_c (C := CMul) (.inr h) q
theorem r_pow (hi : i.natAbs < 2 ^ 250) (h0 : 0 ≤ j) (hn : j ≤ 1000) (q : Q (.d (.int (i ^ j.toNat))) S) : dR2 K (rI CPowW fun i j => .int (i ^ j.toNat)) (.d (.int i)) (.d (.int j)) S Q := r_c (C := CPowW) (by
  have := PyProof.Rows.intBits_le hi
  refine ⟨h0, ?_⟩
  have h2 : (Builtin.Int.intBits i : Int) * j ≤ 250 * 1000 := Int.mul_le_mul (by omega) (by omega) (by omega) (by omega)
  omega) q
theorem r_div (h : 0 < j) (h2 : j < 2 ^ 64) (q : Q (.d (.int (i / j))) S) : dR2 K (rI CDivW fun i j => .int (i / j)) (.d (.int i)) (.d (.int j)) S Q := r_c (C := CDivW) (divW_ok h (Int.lt_of_lt_of_le h2 (by decide +kernel))) q
end
theorem dset_mk {A B C : Prop} (b : B) (a : A) (c : C) : A ∧ B ∧ C := ⟨a, b, c⟩
theorem mem_mid {A B : Sto} {q : Addr × Ce} : q ∈ A ++ q :: B := List.mem_append_right _ List.mem_cons_self
theorem upd_mid {B : Sto} {a : Addr} {c c' : Ce} : ∀ {A : Sto}, Upd (A ++ (a, c) :: B) a c c' (A ++ (a, c') :: B)
  | [] => .here
  | _ :: _ => .there upd_mid
/-! ### equality of data -/
theorem eqvAll_ints : ∀ a b : List Int, PyData.eqvAll (a.map .int) (b.map .int) = decide (a = b)
  | [], [] => by simp [PyData.eqvAll]
  | [], _ :: _ => by simp [PyData.eqvAll]
  | _ :: _, [] => by simp [PyData.eqvAll]
  | x :: xs, y :: ys => by
    rw [List.map_cons, List.map_cons, PyData.eqvAll, eqvAll_ints xs ys, PyData.eqv]
    by_cases h : x = y <;> by_cases h2 : xs = ys <;> simp [h, h2]
theorem eqv_li (a b : List Int) : PyData.eqv (li a) (li b) = decide (a = b) := by
  unfold li
  rw [PyData.eqv, eqvAll_ints]
theorem eqvAll_lis : ∀ a b : List (List Int), PyData.eqvAll (a.map li) (b.map li) = decide (a = b)
  | [], [] => by simp [PyData.eqvAll]
  | [], _ :: _ => by simp [PyData.eqvAll]
  | _ :: _, [] => by simp [PyData.eqvAll]
  | x :: xs, y :: ys => by
    rw [List.map_cons, List.map_cons, PyData.eqvAll, eqvAll_lis xs ys, eqv_li]
    by_cases h : x = y <;> by_cases h2 : xs = ys <;> simp [h, h2]
def lli (a : List (List Int)) : PyData := .list (a.map li)
theorem eqv_lli (a b : List (List Int)) : PyData.eqv (lli a) (lli b) = decide (a = b) := by
  unfold lli
  rw [PyData.eqv, eqvAll_lis]
theorem eqv_int (a b : Int) : PyData.eqv (.int a) (.int b) = decide (a = b) := by
  rw [PyData.eqv]
  rfl
/-! ### lists of ints as cells -/
def vi (ns : List Int) : List Va := ns.map fun n => .d (.int n)
theorem vi_at {ns : List Int} {i : Int} (h0 : 0 ≤ i) (h1 : i < ns.length) : atI (vi ns) i = some (.d (.int (ns.getD i.toNat 0))) := by
  obtain ⟨j, rfl⟩ : ∃ j : Nat, i = j := ⟨i.toNat, by omega⟩
  have hj : j < ns.length := by omega
  unfold atI ixN vi
  rw [if_pos h0, if_pos (by rw [List.length_map]; exact h1)]
  show (List.map (fun n => Va.d (PyData.int n)) ns)[(j : Int).toNat]? = _
  rw [Int.toNat_natCast, List.getElem?_map, List.getElem?_eq_getElem hj]
  show some _ = some _
  rw [List.getD_eq_getElem?_getD, List.getElem?_eq_getElem hj]
  rfl
theorem vi_last {ns : List Int} {n : Int} : atI (vi (ns ++ [n])) (-1) = some (.d (.int n)) := by
  unfold atI ixN vi
  rw [if_neg (by decide), if_pos (by rw [List.length_map, List.length_append]; simp only [List.length_cons, List.length_nil]; omega)]
  show (List.map (fun n => Va.d (PyData.int n)) (ns ++ [n]))[_]? = _
  rw [List.getElem?_map, List.length_map, List.length_append]
  rw [show (-1 + ((ns.length + [n].length : Nat) : Int)).toNat = ns.length by simp only [List.length_cons, List.length_nil]; omega, List.getElem?_append_right (Nat.le_refl _), Nat.sub_self]
  rfl
theorem vi_set (ns : List Int) (j : Nat) (n : Int) : (vi ns).set j (.d (.int n)) = vi (ns.set j n) := by
  unfold vi
  rw [List.map_set]
theorem vi_len (ns : List Int) : (vi ns).length = ns.length := by
  unfold vi
  rw [List.length_map]
theorem vi_app (ns ms : List Int) : vi ns ++ vi ms = vi (ns ++ ms) := by
  unfold vi
  rw [List.map_append]
theorem vi_snoc (ns : List Int) (m : Int) : vi ns ++ [.d (.int m)] = vi (ns ++ [m]) := vi_app ns [m]
theorem vi_map (ns : List Int) : vi ns = (ns.map PyData.int).map Va.d := by
  unfold vi
  rw [List.map_map]
  rfl
section
variable {K : PySem.W.Frag} {S S' C : Sto} {Q : QE} {x y : Va}
theorem sees_vi {ns : List Int} (h : Lst S x (vi ns)) : Sees S x (li ns) := by
  rw [vi_map] at h
  exact Sees.ofLst h
theorem Lst.app {xs : List Va} (h : Lst S x xs) : Lst (C ++ S) x xs := by
  cases h with
  | d ds => exact .d ds
  | r m => exact .r (List.mem_append_right _ m)
theorem Lst.mid {xs : List Va} {q : Addr × Ce} (h : Lst (C ++ S) x xs) : Lst (C ++ q :: S) x xs := by
  cases h with
  | d ds => exact .d ds
  | r m =>
    rcases List.mem_append.mp m with m | m
    · exact .r (List.mem_append_left _ m)
    · exact .r (List.mem_append_right _ (List.mem_cons_of_mem _ m))
theorem Sees.app {d : PyData} (h : Sees S x d) : Sees (C ++ S) x d := h.sub fun _ m => List.mem_append_right _ m
theorem upd_app {a : Addr} {c c' : Ce} {R : Sto} : ∀ {A A' : Sto}, Upd A a c c' A' → Upd (A ++ R) a c c' (A' ++ R)
  | _, _, .here => .here
  | _, _, .there h => .there (upd_app h)
theorem upd_ex {a : Addr} {c c' : Ce} : ∀ {A : Sto}, (a, c) ∈ A → ∃ A', Upd A a c c' A'
  | q :: A, h => by
    rcases List.mem_cons.mp h with e | h
    · subst e
      exact ⟨_, .here⟩
    · obtain ⟨A', u⟩ := upd_ex (c' := c') h
      exact ⟨_, .there u⟩
theorem r_sortedV {ns : List Int} (h : Lst S x (vi ns)) (hz : ns.length < 64) (q : ∀ (ns' : List Int) p, ns'.Perm ns → ns'.Pairwise (· ≤ ·) → Q (.r p) ((p, .lst (vi ns')) :: S)) : dRL K (rSorted K) [x] S Q := r_sorted (sees_vi h) hz q
theorem r_indexI {ns : List Int} {n : Int} (hx : Lst S x (vi ns)) (hn : n ∈ ns) (q : Q (.d (.int (ns.idxOf n : Nat))) S) : dRM K (rIndex K) x [.d (.int n)] S Q := by
  have hlt : ns.idxOf n < ns.length := List.idxOf_lt_length_iff.mpr hn
  refine r_index (ds := ns.map .int) (d := .int n) (z := .int n) (j := ns.idxOf n) (sees_vi hx) (.d _) ?_ rfl ?_ ?_ (fun m z' hm hz => ?_) q
  · rw [List.all_map]
    exact List.all_eq_true.mpr fun _ _ => rfl
  · rw [List.getElem?_map, List.getElem?_eq_getElem hlt, List.getElem_idxOf]
    rfl
  · rw [eqv_int]
    simp
  · rw [List.getElem?_map, List.getElem?_eq_getElem (by omega)] at hz
    cases hz
    rw [eqv_int]
    refine decide_eq_false fun e => ?_
    have h1 : (ns[m] == n) = false := List.not_of_lt_findIdx (p := (· == n)) hm
    rw [e] at h1
    simp at h1
/-- a list of lists, all owned -/
def rowC (c : Addr × List Int) : Addr × Ce := (c.1, .lst (vi c.2))
def rowR (c : Addr × List Int) : Va := .r c.1
theorem sees_rows : ∀ {C : List (Addr × List Int)}, (∀ c ∈ C, rowC c ∈ S) → SeesAll S (C.map rowR) ((C.map (·.2)).map li)
  | [], _ => .nil
  | c :: C, h => .cons (sees_vi (.r (h c List.mem_cons_self))) (sees_rows fun d hd => h d (List.mem_cons_of_mem _ hd))
theorem sees_own2 {p : Addr} {C : List (Addr × List Int)} (hp : (p, .lst (C.map rowR)) ∈ S) (h : ∀ c ∈ C, rowC c ∈ S) : Sees S (.r p) (lli (C.map (·.2))) := .l hp (sees_rows h)
end
theorem sub_appR {α : Type} {a b c : List α} (h : a.Sublist b) : a.Sublist (c ++ b) := h.trans (List.sublist_append_right c b)
theorem vi_rng (f : Nat → Int) (n : Nat) : ((List.range n).map fun i => Va.d (.int (f i))) = vi ((List.range n).map f) := by
  unfold vi
  rw [List.map_map]
  rfl
theorem rep_flat {α : Type} (x : α) : ∀ n : Nat, (List.replicate n [x]).flatten = List.replicate n x
  | 0 => rfl
  | n + 1 => by
    rw [List.replicate_succ, List.flatten_cons, rep_flat x n]
    rfl
theorem vi_rep (x : Int) (n : Nat) : (List.replicate n [Va.d (.int x)]).flatten = vi (List.replicate n x) := by
  rw [rep_flat]
  unfold vi
  rw [List.map_replicate]
theorem map_rng {β : Type} (xs : List Int) (f : Int → β) : xs.map f = (List.range xs.length).map fun j => f (xs.getD j 0) := by
  refine List.ext_getElem? fun i => ?_
  rw [List.getElem?_map, List.getElem?_map]
  by_cases h : i < xs.length
  · rw [List.getElem?_eq_getElem h, List.getElem?_range h]
    show some _ = some (f (xs.getD i 0))
    rw [List.getD_eq_getElem?_getD, List.getElem?_eq_getElem h]
    rfl
  · rw [List.getElem?_eq_none (by omega), List.getElem?_eq_none (by rw [List.length_range]; omega)]
    rfl
def rg (n : Int) : List Int := (List.range n.toNat).map fun (i : Nat) => (i : Int)
theorem rg_sorted (n : Int) : (rg n).Pairwise (· ≤ ·) := by
  unfold rg
  rw [List.pairwise_map]
  exact List.pairwise_lt_range.imp fun h => by omega
theorem rg_len (n : Int) : (rg n).length = n.toNat := by
  unfold rg
  rw [List.length_map, List.length_range]
theorem rgA_vi (n : Int) : rgA 0 n = vi (rg n) := by
  unfold rgA vi rg
  rw [Int.sub_zero, List.map_map]
  refine List.map_congr_left fun i _ => ?_
  show Va.d (.int (0 + (i : Int))) = Va.d (.int (i : Int))
  rw [Int.zero_add]
theorem atI_nat' {α : Type} {xs : List α} {i : Int} {x : α} (h0 : 0 ≤ i) (h : xs[i.toNat]? = some x) : atI xs i = some x := by
  have hlt := (List.getElem?_eq_some_iff.mp h).1
  unfold atI ixN
  rw [if_pos h0, if_pos (by omega)]
  exact h
/-! shapes -/
theorem sh_all {f : α → PyData} (k : Nat) (h : ∀ x, (f x).canLay0 = true ∧ (f x).depth ≤ k) : ∀ xs : List α, PyData.canLayAll0 (xs.map f) = true ∧ PyData.depthAll (xs.map f) ≤ k
  | [] => ⟨by simp [PyData.canLayAll0], by simp [PyData.depthAll]⟩
  | x :: xs => by
    obtain ⟨h1, h2⟩ := sh_all k h xs
    obtain ⟨h3, h4⟩ := h x
    refine ⟨by rw [List.map_cons, PyData.canLayAll0, h3, h1]; rfl, ?_⟩
    rw [List.map_cons, PyData.depthAll]
    omega
theorem sh_li (ns : List Int) : (li ns).canLay0 = true ∧ (li ns).depth ≤ 2 := by
  obtain ⟨h1, h2⟩ := sh_all (f := PyData.int) 1 (fun x => ⟨by simp [PyData.canLay0], by simp [PyData.depth]⟩) ns
  exact ⟨by unfold li; rw [PyData.canLay0]; exact h1, by unfold li; rw [PyData.depth]; omega⟩
theorem shaped_of {d : PyData} {k : Nat} (h : d.canLay0 = true ∧ d.depth ≤ k) (hk : k ≤ 64) : SeqAt.shaped d = true := by
  unfold SeqAt.shaped
  rw [h.1, decide_eq_true (Nat.le_trans h.2 hk)]
  rfl
theorem shaped_li (ns : List Int) : SeqAt.shaped (li ns) = true := shaped_of (sh_li ns) (by decide)
theorem sh_lli (rs : List (List Int)) : (lli rs).canLay0 = true ∧ (lli rs).depth ≤ 3 := by
  obtain ⟨h1, h2⟩ := sh_all (f := li) 2 sh_li rs
  exact ⟨by unfold lli; rw [PyData.canLay0]; exact h1, by unfold lli; rw [PyData.depth]; omega⟩
theorem shaped_lli (rs : List (List Int)) : SeqAt.shaped (lli rs) = true := shaped_of (sh_lli rs) (by decide)
/-! ### the layer's rules with the written part said -/
section
variable {X : Cx}
theorem kIxL (K : PySem.W.Frag) (h : X.K = K := by rfl) : IxR X (rIxL K) := h ▸ ix_list
theorem kIxT (K : PySem.W.Frag) (h : X.K = K := by rfl) : IxR X (rIxT K) := h ▸ ix_tup
theorem kSlL (K : PySem.W.Frag) (h : X.K = K := by rfl) : SlR X (rSlL K) := h ▸ sl_list
theorem kEqD (K : PySem.W.Frag) (hu : X.A.units + 64 < cLine) (h : X.K = K := by rfl) : OpR X (compareOp .Eq) (rEqD K) := h ▸ op_eqD hu
theorem kNeD (K : PySem.W.Frag) (hu : X.A.units + 64 < cLine) (h : X.K = K := by rfl) : OpR X (compareOp .NotEq) (rNeD K) := h ▸ op_neD hu
theorem kInD (K : PySem.W.Frag) (hu : X.A.units + 65 < cLine) (h : X.K = K := by rfl) : OpR X (compareOp .In) (rInD K) := h ▸ op_inD hu
theorem kIn (K : PySem.W.Frag) (h : X.K = K := by rfl) : OpR X (compareOp .In) (rIn K false) := h ▸ op_in_seq
theorem kNotIn (K : PySem.W.Frag) (h : X.K = K := by rfl) : OpR X (compareOp .NotIn) (rIn K true) := h ▸ op_notIn_seq
theorem kCat (K : PySem.W.Frag) (h : X.K = K := by rfl) : OpR X (binaryOp .Add) (rCatL K) := h ▸ op_catL
theorem kLen (K : PySem.W.Frag) (h : X.K = K := by rfl) : CallR X (.builtin "len") (rLen K) := h ▸ c_len
theorem kList (K : PySem.W.Frag) (h : X.K = K := by rfl) : CallR X (.type "list") (rListOf K) := h ▸ c_list
theorem kSorted (K : PySem.W.Frag) (h : X.K = K := by rfl) : CallR X (.builtin "sorted") (rSorted K) := h ▸ cr_sorted
theorem kAll (K : PySem.W.Frag) (hc : X.calm = true) (h : X.K = K := by rfl) : CallR X (.builtin "all") (rAll K) := h ▸ cr_all hc
theorem kAny (K : PySem.W.Frag) (hc : X.calm = true) (h : X.K = K := by rfl) : CallR X (.builtin "any") (rAny K) := h ▸ cr_any hc
theorem kIsi (K : PySem.W.Frag) (h : X.K = K := by rfl) : CallR X (.builtin "isinstance") (rIsi K) := h ▸ call_isi
theorem kIndex (K : PySem.W.Frag) (h : X.K = K := by rfl) : MtR X "list.index" (rIndex K) := h ▸ mt_index
variable {o e : Expr} {es : List Expr} {to : TE} {t : TA} {name : Str} {apos cpos : Pos} {T id : String} {r : V → List V → Hp → VK → Prop} {tg l : Expr} {tl : TE}
theorem kBM0 (K : PySem.W.Frag) (pa : PlainAttrs T) (slot : Slot T name id) (hty : typeOf (.builtin id) = pure (.type "method_descriptor")) (hm : MtR X id r) (ho : PE X o to)
    (h : X.K = K := by rfl) (hbase : attributeBase o name X.env (eval o X.env) = eval o X.env := by rfl) (hline : (apos.endLine == cpos.line) = true := by rfl) : PE X (.Call (.Attribute o name apos) [] [] cpos) (tBM0 K T r to) := h ▸ pe_bm0 pa slot hty hm ho hbase hline
theorem kBM (K : PySem.W.Frag) (pa : PlainAttrs T) (slot : Slot T name id) (hty : typeOf (.builtin id) = pure (.type "method_descriptor")) (hm : MtR X id r) (ho : PE X o to) (ha : PA X (e :: es) t)
    (h : X.K = K := by rfl) (hbase : attributeBase o name X.env (eval o X.env) = eval o X.env := by rfl)
    (hfew : ((backTo cpos (starEach (e :: es) X.env)).all (fun x => !x.1) && (backToKw cpos (keywordEach [] X.env)).all (fun x => x.1.isSome)
      && decide ((e :: es).length + ([] : List Keyword).length + (if ([] : List Keyword).isEmpty then 0 else 1) < 30)) = true := by rfl)
    (hline : (apos.endLine == cpos.line) = true := by rfl) (hs : starEach (e :: es) X.env = (false, eval e X.env) :: starEach es X.env := by rfl) (hplain : (backTo cpos (starEach es X.env)).any (·.1) = false := by rfl) :
    PE X (.Call (.Attribute o name apos) (e :: es) [] cpos) (tBM K T r to t) := h ▸ pe_bm pa slot hty hm ho ha hbase hfew hline hs hplain
theorem kPiL (K : PySem.W.Frag) (hl : PE X l tl) (h : X.K = K := by rfl) : PI X tg l (iList K tl) := h ▸ pi_list hl
theorem kPiE {e' : Expr} {ta : TA} {p pos tpos : Pos} {elts : List Expr} {kk : Nat} (K : PySem.W.Frag) (hg : Gl X "enumerate") (hm : X.mg "enumerate" = none) (ha : PA X [e'] ta) (h : X.K = K := by rfl) (hs : starEach [e'] X.env = [(false, eval e' X.env)] := by rfl) :
    PI X (.Tuple elts kk tpos) (.Call (.Name "enumerate" p) [e'] [] pos) (iEnum K ta) := h ▸ pi_enum hg hm ha hs
theorem kPiZ {e1 e2 : Expr} {ta : TA} {p pos tpos : Pos} {elts : List Expr} {kk : Nat} (K : PySem.W.Frag) (hg : Gl X "zip") (hm : X.mg "zip" = none) (ha : PA X [e1, e2] ta) (h : X.K = K := by rfl)
    (hs : starEach [e1, e2] X.env = (false, eval e1 X.env) :: starEach [e2] X.env := by rfl) (hpl : (backTo pos (starEach [e2] X.env)).any (·.1) = false := by rfl) :
    PI X (.Tuple elts kk tpos) (.Call (.Name "zip" p) [e1, e2] [] pos) (iZip K ta) := h ▸ pi_zip hg hm ha hs hpl
theorem kGT {es' : List Expr} {k : Nat} {t' : TGs} {n : Nat} {pos : Pos} (K : PySem.W.Frag) (hc : X.calm = true) (hh : PGs X es' t') (h : X.K = K := by rfl)
    (hn : (assignEach es' X.env).length = n := by rfl) (hst : (assignEach es' X.env).findIdx? (·.1) = none := by rfl) : PG X (.Tuple es' k pos) (gTup K n t') := h ▸ pg_tup hc hh hn hst
theorem kPiT (K : PySem.W.Frag) (hl : PE X l tl) (h : X.K = K := by rfl) : PI X tg l (iTup K tl) := h ▸ pi_tup hl
end
/-! texts -/
def rAddS : R2 := fun x y H Q => ∃ i j, x = .str i ∧ y = .str j ∧ i.length + j.length ≤ sizeLine ∧ Q (.str (i ++ j)) H
theorem op_addS {X : Cx} : OpR X (binaryOp .Add) rAddS := op_add_str
theorem r_addS {K : PySem.W.Frag} {S : Sto} {Q : QE} {i j : Str} (h : i.length + j.length ≤ sizeLine) (q : Q (.d (.str (i ++ j))) S) : dR2 K rAddS (.d (.str i)) (.d (.str j)) S Q := fun v u F H c o1 o2 Q' p => by
  cases o1; cases o2
  exact ⟨i, j, rfl, rfl, h, p _ F H _ S (.refl F) c (okD (.str _)) q⟩
/-! permutations -/
/-- a list of the numbers below its length -/
def IsP (ns : List Int) : Prop := ns.Perm (rg ns.length)
theorem IsP.mem {ns : List Int} (h : IsP ns) {x : Int} (hx : x ∈ ns) : 0 ≤ x ∧ x < ns.length := by
  have := h.mem_iff.mp hx
  unfold rg at this
  obtain ⟨i, hi, rfl⟩ := List.mem_map.mp this
  have := List.mem_range.mp hi
  omega
theorem mem_rg' {n i : Int} : i ∈ rg n ↔ 0 ≤ i ∧ i < n := by
  unfold rg
  rw [List.mem_map]
  constructor
  · rintro ⟨j, hj, rfl⟩
    have := List.mem_range.mp hj
    omega
  · rintro ⟨h0, h1⟩
    exact ⟨i.toNat, List.mem_range.mpr (by omega), by omega⟩
theorem nodup_rg (n : Int) : (rg n).Nodup := by
  unfold rg
  exact List.Pairwise.map _ (fun a b h e => h (by omega)) List.nodup_range
theorem IsP.nodup {ns : List Int} (h : IsP ns) : ns.Nodup := h.nodup_iff.mpr (nodup_rg _)
/-- from the pigeonhole's side -/
theorem perm_of_sub : ∀ {l m : List Int}, l.Nodup → (∀ x ∈ l, x ∈ m) → m.length ≤ l.length → l.Perm m
  | [], m, _, _, h => by
    have : m = [] := List.length_eq_zero_iff.mp (by simpa using h)
    rw [this]
  | a :: t, m, nd, sub, h => by
    have ha := sub a List.mem_cons_self
    have nd' := List.nodup_cons.mp nd
    have e := List.perm_cons_erase ha
    have hl := e.length_eq
    rw [List.length_cons] at hl h
    refine .trans (.cons a (perm_of_sub nd'.2 (fun x hx => ?_) (by omega))) e.symm
    refine (List.mem_erase_of_ne fun z => ?_).mpr (sub x (List.mem_cons_of_mem _ hx))
    subst z
    exact nd'.1 hx
theorem isP_of {ns : List Int} (nd : ns.Nodup) (h : ∀ x ∈ ns, 0 ≤ x ∧ x < ns.length) : IsP ns :=
  perm_of_sub nd (fun x hx => mem_rg'.mpr (h x hx)) (by rw [rg_len]; omega)
theorem getD_lt {xs : List Int} {k : Nat} (h : k < xs.length) : xs.getD k 0 = xs[k] := by
  rw [List.getD_eq_getElem?_getD, List.getElem?_eq_getElem h]
  rfl
theorem IsP.at {f : List Int} (h : IsP f) {k : Nat} (hk : k < f.length) : 0 ≤ f.getD k 0 ∧ f.getD k 0 < f.length := by
  rw [getD_lt hk]
  exact h.mem (List.getElem_mem hk)
theorem IsP.inj {f : List Int} (h : IsP f) {i j : Nat} (hi : i < f.length) (hj : j < f.length) (e : (f.getD i 0).toNat = (f.getD j 0).toNat) : i = j := by
  have a := h.at hi
  have b := h.at hj
  have e2 : f[i] = f[j] := by
    rw [getD_lt hi] at a e
    rw [getD_lt hj] at b e
    omega
  exact (List.getElem_inj h.nodup).mp e2
theorem IsP.sur {f : List Int} (h : IsP f) {j : Nat} (hj : j < f.length) : ∃ k, k < f.length ∧ (f.getD k 0).toNat = j := by
  have m : (j : Int) ∈ rg f.length := by
    unfold rg
    exact List.mem_map.mpr ⟨j, List.mem_range.mpr (by omega), rfl⟩
  obtain ⟨k, hk, e⟩ := List.getElem_of_mem (List.Perm.mem_iff h |>.mpr m)
  exact ⟨k, hk, by rw [getD_lt hk, e]; rfl⟩
theorem fold_put {α : Type} {f : List Int} (hf : IsP f) (g : Nat → α) (xs : List α) (hx : xs.length = f.length) : ∀ n, n ≤ f.length →
    ((List.range n).foldl (fun acc k => acc.set (f.getD k 0).toNat (g k)) xs).length = f.length ∧ ∀ k, k < n → ((List.range n).foldl (fun acc k => acc.set (f.getD k 0).toNat (g k)) xs)[(f.getD k 0).toNat]? = some (g k)
  | 0, _ => ⟨hx, fun k h => absurd h (Nat.not_lt_zero _)⟩
  | n + 1, hn => by
    obtain ⟨l, ih⟩ := fold_put hf g xs hx n (by omega)
    have hb := hf.at (show n < f.length by omega)
    rw [List.range_succ, List.foldl_append]
    refine ⟨by show (List.set _ _ _).length = _; rw [List.length_set]; exact l, fun k hk => ?_⟩
    show (List.set _ _ _)[_]? = _
    by_cases e : k = n
    · subst e
      rw [List.getElem?_set_self (by rw [l]; omega)]
    · rw [List.getElem?_set_ne (fun z => e (hf.inj (by omega) (by omega) z).symm)]
      exact ih k (by omega)
theorem put_ext {α : Type} {f : List Int} (hf : IsP f) {xs ys : List α} (hx : xs.length = f.length) (hy : ys.length = f.length) (h : ∀ k, k < f.length → xs[(f.getD k 0).toNat]? = ys[(f.getD k 0).toNat]?) : xs = ys := by
  refine List.ext_getElem? fun i => ?_
  by_cases hi : i < f.length
  · obtain ⟨k, hk, e⟩ := hf.sur hi
    rw [← e]
    exact h k hk
  · rw [List.getElem?_eq_none (by omega), List.getElem?_eq_none (by omega)]
/-- first f, then g -/
def comp (f g : List Int) : List Int := f.map fun i => g.getD i.toNat 0
theorem comp_len (f g : List Int) : (comp f g).length = f.length := List.length_map _
theorem comp_at {f g : List Int} {k : Nat} (hk : k < f.length) : (comp f g).getD k 0 = g.getD (f.getD k 0).toNat 0 := by
  rw [getD_lt (by rw [comp_len]; exact hk), getD_lt hk]
  unfold comp
  rw [List.getElem_map]
theorem comp_isP {f g : List Int} (hf : IsP f) (hg : IsP g) (e : f.length = g.length) : IsP (comp f g) := by
  unfold IsP
  rw [comp_len]
  have p : (comp f g).Perm (comp (rg f.length) g) := List.Perm.map _ hf
  refine p.trans ?_
  have z : comp (rg f.length) g = g := by
    refine List.ext_getElem? fun i => ?_
    by_cases hi : i < g.length
    · unfold comp rg
      rw [List.getElem?_map, List.getElem?_map, List.getElem?_range (by omega), List.getElem?_eq_getElem hi]
      exact congrArg some (getD_lt hi)
    · rw [List.getElem?_eq_none (by rw [comp_len, rg_len]; omega), List.getElem?_eq_none (by omega)]
  rw [z, e]
  exact hg
theorem get_comp {f g : List Int} {k : Nat} (hk : k < f.length) : (comp f g)[k]? = some (g.getD (f.getD k 0).toNat 0) := by
  unfold comp
  rw [List.getElem?_map, List.getElem?_eq_getElem hk, getD_lt hk]
  rfl
abbrev spec_law : Spec (List Int) := specLaw
end DL

/-! DG: promises of defs that are called while no repr is under way (Gd). -/
namespace DL
open PySem PySem.Spec PyProof.Rows L2

/-- nothing is being shown -/
def Gd (A : Around) : Prop := A.guards = some []
theorem Gd.deeper {A : Around} (g : Gd A) (e : PySem.Env) : Gd (A.deeper e) := by
  unfold Gd at g ⊢
  first | exact g | simpa [Around.deeper] using g
structure FnG (P : Program) (w : World) (K : PySem.W.Frag) (mg : Str → Option Value) (base : Heap) (CX : CXT) (k : Nat) (f : Addr) (fd : FuncData) (ps : List Str) (sp : Sp) : Prop where
  few : ∀ vs H Q E, sp vs H Q E → vs.length = ps.length
  go : ∀ A outer s H args us vs Q E, Room k A → Gd A → Env0 P w K mg base A outer s H → BindsTo s fd args (ps.zip us) → Vals vs us → sp vs H Q E → codeAny (model P w) A (.call (.ref f) args) (CR CX outer P w H s Q E) s
theorem FnG.imp {P : Program} {w : World} {K : PySem.W.Frag} {mg : Str → Option Value} {base : Heap} {CX : CXT} {k : Nat} {f : Addr} {fd : FuncData} {ps : List Str} {sp sp' : Sp} (F : FnG P w K mg base CX k f fd ps sp)
    (h : ∀ vs H Q E, sp' vs H Q E → sp vs H Q E) : FnG P w K mg base CX k f fd ps sp' :=
  ⟨fun vs H Q E q => F.few vs H Q E (h _ _ _ _ q), fun A o s H args us vs Q E hr hg e0 hb hv z => F.go A o s H args us vs Q E hr hg e0 hb hv (h _ _ _ _ z)⟩

section
variable {CX : CXT} {P : Program} {w : World} {K : PySem.W.Frag} {mg : Str → Option Value} {base : Heap}
/-- from the body's reading -/
theorem fnG_of {qn qual : Str} {st : Stmt} {f : Addr} {fd : FuncData} {N ps : List Str} {k : Nat} {sp : Sp} (Fn : Fun K qn qual st f fd) (Sc : FnScope N ps (defScope st)) (few : ∀ vs H Q E, sp vs H Q E → vs.length = ps.length)
    (hb : ∀ cdv A outer s H vs Q E, Room k (A.deeper (envOfC qual (defScope st) s.heap.objs.size f cdv)) → Gd (A.deeper (envOfC qual (defScope st) s.heap.objs.size f cdv)) → sp vs H Q E →
      ∃ t, PSs (cxOf CX P w K mg base N qual (defScope st) f cdv A outer s H E) (defBody st) t ∧ t { nx := fun _ H' => Q .non H', rt := Q } (L2.start N vs) H) :
    FnG P w K mg base CX (k + 1) f fd ps sp := by
  obtain ⟨_, _, kw, doc, pm, an, cdv, ct, _, rfl, lk, hcd⟩ := Fn.ex
  refine ⟨few, fun A outer s H args us vs Q E room gd e0 bd rel hsp => ?_⟩
  have inS : K.In s.heap := e0.mod.kin.keeps fun b o z => (e0.bs b o z).1
  have names : ∀ y ∈ ps.zip us, (defScope st).names.lookup y.1 = some .local ∨ ((defScope st).names.lookup y.1 = some .cell ∧ ((cellsFrom (s.heap.objs.size + 1) (defScope st).names []).lookup y.1).isSome = true) := by
    rintro ⟨n, v⟩ hy
    refine (Sc.par n (List.of_mem_zip hy).1).imp id fun q => ⟨q, ?_⟩
    exact PySem.W.cellsFrom_some _ _ _ (.inl q)
  apply codeAny_call_function room.depth (inS _ _ lk) rfl Sc.co Sc.gen rfl (PySem.W.codeRec_of inS hcd)
  apply bd
  refine wpAny_newFunctionEnv_cells Sc.kind names ?_
  rintro _ rfl s1 x
  have noLim : s1.heap.NoLimit := (e0.mod.nolimit.keeps fun b o z => (e0.bs b o z).1).keeps x.toInCall.keep
  refine ⟨noLim, codeAny_func ?_⟩
  obtain ⟨t, ht, hq⟩ := hb cdv A outer s H vs Q E (room.deeper _) (gd.deeper _) hsp
  have I := inv_start (CX := CX) (mg := mg) (base := base) (E := E) (qual := qual) Sc room.hd e0 (few _ _ _ _ hsp) rel x
  refine wpAny_mono (ht.run [] s1 (L2.start N vs) H _ I hq) (fun fl s2 hs => ?_) fun _ _ z => z
  match fl, hs with
  | .ret _, ⟨v, _, H2, J, rv, q⟩ => exact ⟨v, H2, J.os, J.bare, J.base, J.hok, rv, q⟩
  | .next, ⟨_, H2, J, q⟩ => exact ⟨.non, H2, J.os, J.bare, J.base, J.hok, rfl, q⟩
  | .brk, ⟨_, _, _, q⟩ => exact q.elim
  | .cont, ⟨_, _, _, q⟩ => exact q.elim
end
section
variable {X : Cx} {CX : CXT} {k : Nat} {f : Addr} {fd : FuncData} {ps ks : List Str} {sp : Sp} {dvs : List V} {ds : List Value} {E : XK} {x : Str} {p pos : Pos} {e : Expr} {es : List Expr} {t tk : TA} {kws : List Keyword} {g : List Value → List Value → List Value} {gV : List V → List V → List V}
theorem end_call {pins : List (Addr × Obj)} {σ : L2.St} {H : Hp} {s s' : Shared} {Q : VK} {r : Result} (hx : Passes CX X E) (I : Inv X pins σ H s) (h : CR CX X.stack X.prog X.w H s Q E r s') :
    match r with | .ok (.ret u) => EP X pins σ Q u s' | .ok _ => False | .error e => X.xe e s' := by
  match r, h with
  | .error e, h => exact hx pins σ H s e s' I h
  | .ok (.ret _), h => exact I.after h
  | .ok .next, h => exact h
  | .ok .brk, h => exact h
  | .ok .cont, h => exact h
theorem runG {pins : List (Addr × Obj)} {σ : L2.St} {H : Hp} {s : Shared} {Q : VK} {us : List Value} {vs : List V} (G : FnG X.prog X.w X.K X.mg X.base CX k f fd ps sp) (hr : Room k X.A) (hg : Gd X.A) (hb : Binds X.K fd ps ds) (hd : Vals dvs ds) (hx : Passes CX X E)
    (I : Inv X pins σ H s) (r : Vals vs us) (h : sp (vs ++ dvs) H Q E) : wpAny (model X.prog X.w) X.A (call (.ref f) us) (EP X pins σ Q) X.xe s := by
  have r2 : Vals (vs ++ dvs) (us ++ ds) := r.append hd
  have all := (r2.length.symm.trans (G.few _ _ _ _ h))
  apply wpAny_call
  refine codeAny_mono (G.go X.A X.stack s H _ _ _ Q E hr hg I.env0 (hb s us I.kIn all) r2 h) ?_
  intro r s' hq
  have z := end_call hx I hq
  cases r with
  | error _ => exact z
  | ok fl =>
    cases fl
    case ret => exact z
    all_goals exact z.elim
theorem runGk {pins : List (Addr × Obj)} {σ : L2.St} {H : Hp} {s : Shared} {Q : VK} {us ws : List Value} {vs zs : List V} (G : FnG X.prog X.w X.K X.mg X.base CX k f fd ps sp) (hr : Room k X.A) (hg : Gd X.A) (hb : KBinds X.K fd ps ks g gV) (hx : Passes CX X E)
    (I : Inv X pins σ H s) (r : Vals vs us) (rz : Vals zs ws) (h : sp (gV vs zs) H Q E) : wpAny (model X.prog X.w) X.A (call (.ref f) us (ks.zip ws)) (EP X pins σ Q) X.xe s := by
  have r2 := hb.rel r rz
  have all := (r2.length.symm.trans (G.few _ _ _ _ h))
  apply wpAny_call
  refine codeAny_mono (G.go X.A X.stack s H _ _ _ Q E hr hg I.env0 (hb.to s us ws I.kIn all) r2 h) ?_
  intro r s' hq
  have z := end_call hx I hq
  cases r with
  | error _ => exact z
  | ok fl =>
    cases fl
    case ret => exact z
    all_goals exact z.elim
/-- f(e, ..) -/
theorem gcall (G : FnG X.prog X.w X.K X.mg X.base CX k f fd ps sp) (hr : Room k X.A) (gd : Gd X.A) (gl : Gl X x) (hm : X.mg x = some (.ref f)) (kp : PySem.W.keepIn X.K (.ref f) = true) (hb : Binds X.K fd ps ds) (hd : Vals dvs ds) (hx : Passes CX X E) (ha : PA X (e :: es) t)
    (hdb : (x == ("__debug__" : Str)) = false := by decide) (he : starEach (e :: es) X.env = (false, eval e X.env) :: starEach es X.env := by rfl) (hpl : (backTo pos (starEach es X.env)).any (·.1) = false := by rfl) :
    PE X (.Call (.Name x p) (e :: es) [] pos) (tCall sp dvs E t) := by
  constructor
  intro pins s σ H Q I h
  refine wpAny_Call_Name_kw (ld_glob I gl hm ?_ hdb)
  have args := ha.run pos pins s σ H _ I h
  exact PySem.W.callWith_K (h₀ := X.base) I.ok.mod.kin kp (thn args fun us s1 ⟨vs, H1, J, r, q⟩ => ⟨J.kIn, runG G hr gd hb hd hx J r q⟩) he hpl
theorem gcall0 (G : FnG X.prog X.w X.K X.mg X.base CX k f fd ps sp) (hr : Room k X.A) (gd : Gd X.A) (gl : Gl X x) (hm : X.mg x = some (.ref f)) (kp : PySem.W.keepIn X.K (.ref f) = true) (hb : Binds X.K fd ps ds) (hd : Vals dvs ds) (hx : Passes CX X E)
    (hdb : (x == ("__debug__" : Str)) = false := by decide) : PE X (.Call (.Name x p) [] [] pos) (tCall sp dvs E tNil) := by
  constructor
  intro pins s σ H Q I h
  exact wpAny_Call_Name_kw (ld_glob I gl hm (PySem.W.callWith_K0 I.kIn kp (runG (us := []) G hr gd hb hd hx I .nil h)) hdb)
theorem gcallK (G : FnG X.prog X.w X.K X.mg X.base CX k f fd ps sp) (hr : Room k X.A) (gd : Gd X.A) (gl : Gl X x) (hm : X.mg x = some (.ref f)) (kp : PySem.W.keepIn X.K (.ref f) = true) (hb : KBinds X.K fd ps ks g gV) (hx : Passes CX X E)
    (ha : PA X (e :: es) t) (hkw : PK X kws tk) (hall : (backToKw pos (keywordEach kws X.env)).all (·.1.isSome) = true := by rfl) (hks : (backToKw pos (keywordEach kws X.env)).filterMap (·.1) = ks := by rfl)
    (hdb : (x == ("__debug__" : Str)) = false := by decide) (he : starEach (e :: es) X.env = (false, eval e X.env) :: starEach es X.env := by rfl)
    (hpl : ((backTo pos (starEach (e :: es) X.env)).any (·.1) || (backToKw pos (keywordEach kws X.env)).any (·.1.isNone)) = false := by rfl) : PE X (.Call (.Name x p) (e :: es) kws pos) (tCallK sp gV E t tk) := by
  constructor
  intro pins s σ H Q I h
  refine wpAny_Call_Name_kw (ld_glob I gl hm ?_ hdb)
  refine PySem.W.callWith_KW (h₀ := X.base) I.ok.mod.kin kp hall (thn (ha.run pos pins s σ H _ I h) ?_) hpl he
  rintro us s1 ⟨vs, H1, I1, r, q⟩
  refine thn (hkw.run pos pins s1 σ H1 _ I1 q) ?_
  rintro ws s2 ⟨zs, H2, I2, rz, q2⟩
  exact ⟨I2.kIn, hks.symm ▸ runGk G hr gd hb hx I2 r rz q2⟩
theorem gcallK0 (G : FnG X.prog X.w X.K X.mg X.base CX k f fd ps sp) (hr : Room k X.A) (gd : Gd X.A) (gl : Gl X x) (hm : X.mg x = some (.ref f)) (kp : PySem.W.keepIn X.K (.ref f) = true) (hb : KBinds X.K fd ps ks g gV) (hx : Passes CX X E)
    (hkw : PK X kws tk) (hall : (backToKw pos (keywordEach kws X.env)).all (·.1.isSome) = true := by rfl) (hks : (backToKw pos (keywordEach kws X.env)).filterMap (·.1) = ks := by rfl)
    (hdb : (x == ("__debug__" : Str)) = false := by decide) (hpl : ((backTo pos (starEach [] X.env)).any (·.1) || (backToKw pos (keywordEach kws X.env)).any (·.1.isNone)) = false := by rfl) : PE X (.Call (.Name x p) [] kws pos) (tCallK sp gV E tNil tk) := by
  constructor
  intro pins s σ H Q I h
  refine wpAny_Call_Name_kw (ld_glob I gl hm ?_ hdb)
  refine PySem.W.callWith_KW0 (h₀ := X.base) I.ok.mod.kin kp hall (thn (hkw.run pos pins s σ H _ I h) ?_) hpl
  rintro ws s2 ⟨zs, H2, I2, rz, q2⟩
  exact ⟨I2.kIn, hks.symm ▸ runGk G hr gd hb hx I2 .nil rz q2⟩
end
/-! ### the head -/
theorem gd_caller : Gd callerA := rfl
theorem ints_vals {vs : List Value} {ns : List Int} (h : IntsAre vs ns) : Vals (ns.map V.int) vs := by
  induction h with
  | nil => exact .nil
  | cons n t _ ih => exact .cons ⟨t, rfl⟩ ih
section
variable {P : Program} {w : World} {K : PySem.W.Frag} {mg mb : Str → Option Value} {k : Nat} {fa a : Addr} {fd : FuncData} {x : Str} {s₁ : Shared} {vs : List Value} {ns : List Int}
/-- the script's object -/
abbrev scO (vs : List Value) : Obj := { cls := .type "list", data := .seq vs.toArray }
/-- the script is locked, unless it is the module's own -/
def scH (K : PySem.W.Frag) (a : Addr) (vs : List Value) (ns : List Int) : Hp := fun b => if b = a ∧ K.lookup a = none then some (.frz (scO vs) (.lst (ns.map V.int))) else none
theorem scH_some {b : Addr} {u : HO} (h : scH K a vs ns b = some u) : b = a ∧ K.lookup a = none ∧ u = .frz (scO vs) (.lst (ns.map V.int)) := by
  unfold scH at h
  split at h
  · next q => exact ⟨q.1, q.2, (Option.some.inj h).symm⟩
  · cases h
theorem lawG (kin : K.In s₁.heap) (gns : s₁.heap.Ns mainGlobals mg) (bns : s₁.heap.Ns builtinsNs mb) (bok : ∀ x : Str, x ≠ "__name__" → mb x = bootBuiltins x) (nolim : s₁.heap.NoLimit) (nog : s₁.gens = #[])
    (at_ : s₁.heap.get? a = some (scO vs)) (hin : IntsAre vs ns) (few : ns.length ≤ 63) (room : Room k callerA) (F : ∀ base : Heap, K.In base → base.Ns mainGlobals mg → FnG P w K mg base CX0 k fa fd [x] (spLaw K)) (bind : ∀ (s : Shared) (u : Value), BindsTo s fd ⟨[u], []⟩ [(x, u)]) :
    codeAny (model P w) callerA (.call (.ref fa) ⟨[.ref a], []⟩) (fun r s' => r = .ok (.ret (.bool true)) ∧ OldK s₁.heap s'.heap ∧ s'.os = s₁.os ∧ AllBare s'.gens) s₁ := by
  have iv := ints_vals hin
  have small : (ns.map V.int).length ≤ sizeLine := by
    rw [List.length_map]
    exact Nat.le_trans few (by decide)
  have ok0 : HOk P w (scH K a vs ns) s₁.heap := by
    intro b u hb
    obtain ⟨rfl, _, rfl⟩ := scH_some hb
    exact ⟨at_, small, vs, _, iv, at_⟩
  have sq : SqL K (scH K a vs ns) a (ns.map V.int) := by
    cases hk : K.lookup a with
    | none => exact .inl (.inr ⟨scO vs, if_pos ⟨rfl, hk⟩⟩)
    | some o =>
      have z := kin a o hk
      rw [at_] at z
      cases z
      refine .inr ⟨_, vs.toArray, _, hk, rfl, rfl, rfl, ?_, by simpa using iv⟩
      rw [List.size_toArray, ← iv.length]
      exact small
  have keep : ∀ {b : Addr} {o : Obj}, s₁.heap.get? b = some o → (b = a → K.lookup a ≠ none) → (hidT s₁.heap (scH K a vs ns)).get? b = some o := by
    intro b o e n
    refine hidT_get e ?_
    cases q : scH K a vs ns b with
    | none => rfl
    | some u => exact absurd (scH_some q).2.1 (n (scH_some q).1)
  have space : ∀ {b : Addr} {m : Str → Option Value}, s₁.heap.Ns b m → (hidT s₁.heap (scH K a vs ns)).Ns b m := by
    rintro b m ⟨o, es, ep, e, d, r⟩
    refine ⟨o, es, ep, keep e fun z => ?_, d, r⟩
    subst z
    rw [at_] at e
    cases e
    cases (show Data.seq vs.toArray _ = Data.dict es ep from d)
  have kin2 : K.In (hidT s₁.heap (scH K a vs ns)) := fun b o e => keep (kin b o e) fun z => by
    subst z
    rw [e]
    simp
  obtain ⟨mc, c1, c2⟩ := nolim
  have e0 : Env0 P w K mg (hidT s₁.heap (scH K a vs ns)) callerA [] s₁ (scH K a vs ns) :=
    { frames := rfl, mod := ⟨kin2, space gns, ⟨mb, space bns, bok⟩, mc, space c1, c2⟩, bs := fun b o e => of_hidT e, bsz := Nat.le_of_eq (hidT_size _ _), funs := trivial, frf := fun b hb => (by cases hb), hok := ok0, bare := .of_eq nog }
  have run := (F _ kin2 (space gns)).go callerA [] s₁ (scH K a vs ns) ⟨[.ref a], []⟩ [.ref a] [.ref a] (fun v _ => v = .bl true) (fun _ _ _ => False) room gd_caller e0 (bind s₁ (.ref a)) (.cons rfl .nil) ⟨a, ns, rfl, sq, few, fun _ => rfl⟩
  refine codeAny_mono run ?_
  intro r s2 hr
  cases r with
  | error e => exact False.elim hr
  | ok fl =>
    cases fl
    case ret u =>
      obtain ⟨v, H2, os, bare, un, ok2, rel, q⟩ := hr
      cases q
      cases rel
      refine ⟨rfl, OldK.of_keep fun b o e => ?_, os, bare⟩
      cases q : scH K a vs ns b with
      | none => exact un.keep b o e q (fun z => by cases z) (by simp)
      | some u =>
        obtain ⟨rfl, _, rfl⟩ := scH_some q
        rw [at_] at e
        cases e
        exact (ok2 _ _ (un.frzs _ _ _ q)).1
    all_goals exact False.elim hr
theorem walkG {l : PySem.W.OpenLaw} {q : Program} {loose : List Str} {XP : (Str → Option Value) → Heap → Prop} {YP : World → Heap → Prop} {d : DefRec} {KK : Params → PySem.W.Frag} (most : l.most = some 63) (nodef : d.params.defaults = []) (room : Room k callerA)
    (hY : ∀ (w : World) (h : Heap), YP w h → (KK w.params).In h)
    (F : ∀ (w : World) (mg : Str → Option Value) (fa : Addr) (h : Heap), (KK w.params).In h → h.Ns mainGlobals mg → mg d.name = some (.ref fa) →
      ∃ fd : FuncData, (∀ (s : Shared) (u : Value), BindsTo s fd ⟨[u], []⟩ [(x, u)]) ∧ ∀ base : Heap, (KK w.params).In base → base.Ns mainGlobals mg → FnG l.prog w (KK w.params) mg base CX0 k fa fd [x] (spLaw (KK w.params))) :
    PySem.W.WalkO q loose XP YP l.row.toRowW d [] (fun f vs => PySem.call f vs) := by
  refine Att.attach_call most nodef ?_
  intro w s₀ s₁ mg mb fa o pm cd doc a vs ns G Y ho hd hcd hmg hobj hints hlen hg
  obtain ⟨fd, hb, hF⟩ := F w mg fa _ (hY w _ Y) G.T.g hmg
  exact lawG (hY w _ Y) G.T.g G.T.b G.T.builtins G.T.nolimit hg hobj hints hlen room hF hb
end
/-! ### repr -/
def rRepr (K : PySem.W.Frag) : List V → Hp → VK → Prop := fun xs H Q => ∃ x d, xs = [x] ∧ Dp K H x d ∧ d.showable = true ∧ d.hasDict = false ∧ d.depth ≤ 60 ∧ d.shown.length ≤ sizeLine ∧ Q (.str d.shown) H
theorem c_repr {X : Cx} (K : PySem.W.Frag) {k : Nat} (hr : Room k X.A) (gd : Gd X.A) (h : X.K = K := by rfl) : CallR X (.builtin "repr") (rRepr K) := by
  subst h
  rintro pins s σ H xs us Q I r ⟨x, d, rfl, hd, sh, nd, dp, sz, q⟩
  obtain ⟨u, rfl, ru⟩ := vals1 r
  have fin : EP X pins σ Q (.str d.shown s.toks) { s with toks := s.toks + 1 } := ⟨.str d.shown, H, I.tok _, ⟨_, rfl⟩, q⟩
  have obj : ∀ a, u = .ref a → wpAny (model X.prog X.w) X.A (call (.builtin "repr") [.ref a]) (EP X pins σ Q) X.xe s := by
    rintro a rfl
    obtain ⟨as, rd⟩ := Dp.reads I d x (.ref a) hd ru
    refine repr_of_reads' rd sh (fun z => (by rw [nd] at z; cases z)) gd (by have := hr.un; omega) (fun _ _ z => z) (fun h' u tk kp => ?_) sz
    exact ⟨.str d.shown, H, I.kept (h' := h') (t' := tk) kp, ⟨_, rfl⟩, q⟩
  cases hd with
  | non => cases ru; exact PySem.P.repr_of_none (by simpa only [PyData.shown] using fin)
  | bl b => cases ru; exact PySem.P.repr_of_bool (by simpa only [PyData.shown] using fin)
  | int n =>
    obtain ⟨t, rfl⟩ := ru
    simp only [PyData.showable, decide_eq_true_eq] at sh
    exact PySem.P.repr_of_int sh (by simpa only [PyData.shown] using fin)
  | str z =>
    obtain ⟨t, rfl⟩ := ru
    simp only [PyData.shown] at sz fin
    exact PySem.P.repr_of_str fin sz
  | lst a b => exact (show u = _ from ru) ▸ obj _ ru
  | tup a b => exact (show u = _ from ru) ▸ obj _ ru
section
variable {K : PySem.W.Frag} {S : Sto} {Q : QE} {x : Va}
theorem r_repr {d : PyData} (hx : Sees S x d) (sh : d.showable = true) (nd : d.hasDict = false) (dp : d.depth ≤ 60) (sz : d.shown.length ≤ sizeLine) (q : Q (.d (.str d.shown)) S) : dRL K (rRepr K) [x] S Q := fun vs F H c o Q' p => by
  obtain _ | ⟨o1, _ | _⟩ := o
  exact ⟨_, d, rfl, (hx.at_ c o1).dp nd, sh, nd, dp, sz, p _ F H _ S (.refl F) c (okD (.str _)) q⟩
end
theorem small_shown : ∀ n : Fin 100, (PyData.int (n.val : Int)).shown.length ≤ 8 := by decide +kernel
theorem leaf_small {n : Int} (h0 : 0 ≤ n) (h1 : n < 100) : PyData.leavesShort 8 (.int n) = true := by
  rw [PyData.leavesShort]
  have := small_shown ⟨n.toNat, by omega⟩
  rw [show ((⟨n.toNat, by omega⟩ : Fin 100).val : Int) = n from Int.toNat_of_nonneg h0] at this
  exact decide_eq_true this
theorem row_leaves : ∀ {r : List Int}, (∀ n ∈ r, 0 ≤ n ∧ n < 100) → PyData.leavesShortAll 8 (r.map .int) = true ∧ PyData.bulkAll (r.map PyData.int) = r.length ∧ PyData.showableAll (r.map .int) = true ∧ PyData.hasDictAll (r.map .int) = false
  | [], _ => ⟨rfl, rfl, rfl, rfl⟩
  | n :: r, h => by
    obtain ⟨h1, h2, h3, h4⟩ := row_leaves (r := r) fun m hm => h m (List.mem_cons_of_mem _ hm)
    have hn := h n List.mem_cons_self
    refine ⟨?_, ?_, ?_, ?_⟩
    · rw [List.map_cons, PyData.leavesShortAll, leaf_small hn.1 hn.2, h1]
      rfl
    · rw [List.map_cons, PyData.bulkAll, h2, List.length_cons]
      simp only [PyData.bulk]
      omega
    · rw [List.map_cons, PyData.showableAll, h3, PyData.showable]
      have : n.natAbs.log2 < 1920 := Nat.lt_of_le_of_lt (Nat.log2_le_self _) (by omega)
      rw [decide_eq_true this]
      rfl
    · rw [List.map_cons, PyData.hasDictAll, h4, PyData.hasDict]
      rfl
theorem rows_leaves : ∀ {rs : List (List Int)}, (∀ r ∈ rs, r.length ≤ 100 ∧ ∀ n ∈ r, 0 ≤ n ∧ n < 100) → PyData.leavesShortAll 8 (rs.map li) = true ∧ PyData.bulkAll (rs.map li) ≤ 101 * rs.length ∧ PyData.showableAll (rs.map li) = true ∧ PyData.hasDictAll (rs.map li) = false
  | [], _ => ⟨rfl, Nat.le_refl _, rfl, rfl⟩
  | r :: rs, h => by
    obtain ⟨h1, h2, h3, h4⟩ := rows_leaves (rs := rs) fun m hm => h m (List.mem_cons_of_mem _ hm)
    obtain ⟨hl, hr⟩ := h r List.mem_cons_self
    obtain ⟨g1, g2, g3, g4⟩ := row_leaves hr
    refine ⟨?_, ?_, ?_, ?_⟩
    · rw [List.map_cons, PyData.leavesShortAll, h1]
      unfold li
      rw [PyData.leavesShort, g1]
      rfl
    · rw [List.map_cons, PyData.bulkAll, List.length_cons]
      unfold li at *
      rw [PyData.bulk, g2]
      omega
    · rw [List.map_cons, PyData.showableAll, h3]
      unfold li
      rw [PyData.showable, g3]
      rfl
    · rw [List.map_cons, PyData.hasDictAll, h4]
      unfold li
      rw [PyData.hasDict, g4]
      rfl
section
variable {K : PySem.W.Frag} {S : Sto} {Q : QE} {x : Va}
theorem r_reprLL {rs : List (List Int)} (hx : Sees S x (lli rs)) (hn : rs.length ≤ 100) (h : ∀ r ∈ rs, r.length ≤ 100 ∧ ∀ n ∈ r, 0 ≤ n ∧ n < 100) (q : Q (.d (.str (lli rs).shown)) S) : dRL K (rRepr K) [x] S Q := by
  obtain ⟨h1, h2, h3, h4⟩ := rows_leaves h
  refine r_repr hx ?_ ?_ ?_ ?_ q
  · unfold lli
    rw [PyData.showable]
    exact h3
  · unfold lli
    rw [PyData.hasDict]
    exact h4
  · exact Nat.le_trans (sh_lli rs).2 (by decide)
  · have a := PyData.shown_le_bulk 8 (Nat.le_refl _) (lli rs) (by unfold lli; rw [PyData.leavesShort]; exact h1)
    have b : (lli rs).bulk ≤ 101 * rs.length := by
      unfold lli
      rw [PyData.bulk]
      exact h2
    have c : sizeLine = 2 ^ 24 := rfl
    rw [c]
    omega
end
theorem strOk_app (a b : Str) : PyData.strOk (a ++ b) = (PyData.strOk a && PyData.strOk b) := by
  unfold PyData.strOk
  show ((a.cps ++ b.cps).all _) = _
  rw [Array.all_append]
theorem textFrom_ok : ∀ (ts : List Str) (k : Nat) (acc : Str), PyData.strOk acc = true → (∀ t ∈ ts, PyData.strOk t = true) → PyData.strOk (textFrom k acc ts) = true
  | [], k, acc, h, _ => h
  | t :: ts, k, acc, h, hs => by
    rw [textFrom]
    refine textFrom_ok ts _ _ ?_ fun u hu => hs u (List.mem_cons_of_mem _ hu)
    have := hs t List.mem_cons_self
    split <;> simp only [strOk_app, h, this] <;> decide +kernel
theorem listText_ok {ts : List Str} (hs : ∀ t ∈ ts, PyData.strOk t = true) : PyData.strOk (listText ts) = true := by
  unfold listText
  rw [strOk_app, textFrom_ok ts _ _ (by decide +kernel) hs]
  decide +kernel
theorem small_ok : ∀ n : Fin 100, PyData.strOk (PyData.int (n.val : Int)).shown = true := by decide +kernel
theorem lli_ok {rs : List (List Int)} (h : ∀ r ∈ rs, ∀ n ∈ r, 0 ≤ n ∧ n < 100) : PyData.strOk (lli rs).shown = true := by
  unfold lli
  rw [PyData.shown, shownAll_eq_map]
  refine listText_ok fun t ht => ?_
  obtain ⟨d, hd, rfl⟩ := List.mem_map.mp ht
  obtain ⟨r, hr, rfl⟩ := List.mem_map.mp hd
  unfold li
  rw [PyData.shown, shownAll_eq_map]
  refine listText_ok fun t ht => ?_
  obtain ⟨d, hd, rfl⟩ := List.mem_map.mp ht
  obtain ⟨n, hn, rfl⟩ := List.mem_map.mp hd
  have hb := h r hr n hn
  have := small_ok ⟨n.toNat, by omega⟩
  rw [show ((⟨n.toNat, by omega⟩ : Fin 100).val : Int) = n from Int.toNat_of_nonneg hb.1] at this
  exact this
theorem r_eqT {K : PySem.W.Frag} {S : Sto} {Q : QE} {z : Str} (h : PyData.strOk z = true) (q : Q (.d (.bool true)) S) : dR2 K (rEqD K) (.d (.str z)) (.d (.str z)) S Q := by
  have c : (PyData.str z).canLay0 = true := by rw [PyData.canLay0]; exact h
  have s : SeqAt.shaped (.str z) = true := shaped_of (k := 1) ⟨c, by simp [PyData.depth]⟩ (by decide)
  refine r_eqD (.d _) (.d _) s s ?_
  rw [SeqAt.eqv_refl _ c]
  exact q
/-! ### a def, over data -/
theorem fn_G {K : PySem.W.Frag} {P : Program} {w : World} {mg : Str → Option Value} {base : Heap} {α : Type} {sp : Spec α} {qn qual : Str} {st : Stmt} {f : Addr} {fd : FuncData} {N ps : List Str} {k : Nat} (Fn : Fun K qn qual st f fd) (Sc : FnScope N ps (defScope st))
    (few : ∀ a xs S, sp.pre a xs S → xs.length = ps.length)
    (hb : ∀ (cdv : Value) (A : Around) (outer : List PySem.Env) (s : Shared) (H : Hp) (E : XK), Room k (A.deeper (envOfC qual (defScope st) s.heap.objs.size f cdv)) → Gd (A.deeper (envOfC qual (defScope st) s.heap.objs.size f cdv)) →
      ∃ t, PSs (cxOf CX0 P w K mg base N qual (defScope st) f cdv A outer s H E).nox (defBody st) t ∧ ∀ a xs S, sp.pre a xs S → dS K t { nx := fun _ S' => sp.post a S (.d .none) S', rt := sp.post a S } (startA N xs) S) :
    FnG P w K mg base CX0 (k + 1) f fd ps (spD K sp) := by
  refine fnG_of Fn Sc (fun vs H Q E ⟨F, xs, S, a, _, o, pre, _⟩ => (by rw [← plen o]; exact few a xs S pre)) ?_
  rintro cdv A outer s H vs Q E hr gd ⟨F, xs, S, a, c, o, pre, post⟩
  obtain ⟨t, h1, h2⟩ := hb cdv A outer s H E hr gd
  exact ⟨t, h1.nox, h2 a xs S pre _ F H (slots_start o) c _ ⟨fun σ' F' H' Γ' S' e s' c' q => post _ F' H' _ S' e c' (okD .non) q, post, fun _ _ _ _ _ _ _ _ z => z.elim, fun _ _ _ _ _ _ _ _ z => z.elim⟩⟩
structure CalG (P : Program) (w : World) (K : PySem.W.Frag) (mg : Str → Option Value) (base : Heap) (k : Nat) (nm : Str) (a : Addr) (fd : FuncData) (ps : List Str) (sp : Sp) : Prop where
  G : FnG P w K mg base CX0 k a fd ps sp
  g : mg nm = some (.ref a)
  kp : PySem.W.keepIn K (.ref a) = true
  b : Binds K fd ps []
theorem law_G {K : PySem.W.Frag} {P : Program} {w : World} {mg : Str → Option Value} {base : Heap} {k : Nat} {f : Addr} {fd : FuncData} {ps : List Str} (G : FnG P w K mg base CX0 k f fd ps (spD K specLaw)) : FnG P w K mg base CX0 k f fd ps (spLaw K) :=
  G.imp fun vs H Q E ⟨a, ns, e, h, hz, q⟩ => ⟨H, [.d (li ns)], [], ns, Cf.mk (K := K) (S := []) (F := H) (H := H) (Same.refl H) List.nodup_nil (fun _ h => nomatch h) (fun _ h => nomatch h), by rw [e]; exact .cons (At.lst h (ints_all ns)) .nil, ⟨rfl, rfl, hz⟩, fun v F' H' x S' _ _ o z => by
    cases (show x = _ from z)
    cases o
    exact q H'⟩
end DL

/-! DE: tuples and slices of lists, dicts as data, repr of any data. -/
namespace DL
open PySem PySem.Spec PyProof.Rows L2

theorem prev {α β : Type} {R : α → β → Prop} {xs : List α} {ys : List β} (h : Paired R xs ys) : Paired R xs.reverse ys.reverse := by
  induction h with
  | nil => exact .nil
  | cons r _ ih =>
    rw [List.reverse_cons, List.reverse_cons]
    exact papp ih (.cons r .nil)
def rTupOf (K : PySem.W.Frag) : List V → Hp → VK → Prop := fun xs H Q => ∃ p ys, xs = [.ref p] ∧ ((SqL K H p ys ∧ ∀ l, H l = none → Q (.ref l) (upd H l (.tup ys))) ∨ (SqT K H p ys ∧ Q (.ref p) H))
section
variable {X : Cx} {e : Expr} {te : TE} {k : Nat} {p1 p2 p3 pos : Pos}
theorem kTup (K : PySem.W.Frag) (h : X.K = K := by rfl) : CallR X (.type "tuple") (rTupOf K) := h ▸ call_tuple_of
theorem kCnt (K : PySem.W.Frag) (h : X.K = K := by rfl) : MtR X "list.count" (rCntI K) := h ▸ mt_lcount
theorem kRev (K : PySem.W.Frag) (he : PE X e te) (h : X.K = K := by rfl) : PE X (.Subscript e (.Slice none none (some (.UnaryOp .USub (.Constant (.int 1) k p1) p2)) p3) pos) (tRevL K te) := h ▸ pe_revL he
end
section
variable {K : PySem.W.Frag} {F F' H H' : Hp} {S S' : Sto} {Γ : Env} {x y z : Va} {v : V} {Q : QE} {te ta tb tc : TE} {N : DEnds}
theorem r_tuple {xs : List Va} (h : Lst S x xs) (q : ∀ p, Q (.r p) ((p, .tup xs) :: S)) : dRL K (rTupOf K) [x] S Q := fun vs F H c o Q' p => by
  obtain _ | ⟨o1, _ | _⟩ := o
  obtain ⟨a, vs, rfl, h1, h2⟩ := h.at_ c o1
  exact ⟨a, vs, rfl, .inl ⟨h1, fun l hl => p _ F _ _ _ (.refl F) (c.newT hl h2) okR (q l)⟩⟩
theorem d_rev (h : dE K te Γ S fun x S1 => ∃ xs, Lst S1 x xs ∧ ∀ p, Q (.r p) ((p, .lst xs.reverse) :: S1)) : dE K (tRevL K te) Γ S Q := fun σ F H s c Q' p =>
  h σ F H s c _ fun v F1 H1 x S1 e1 c1 o1 ⟨xs, hl, q⟩ => by
    obtain ⟨a, vs, rfl, h1, h2⟩ := hl.at_ c1 o1
    exact ⟨a, vs, rfl, h1, fun l hl => p _ F1 _ _ _ e1 (c1.newL hl (prev h2)) okR (q l)⟩
theorem m_count {ns : List Int} {k : Int} (hx : Lst S x (vi ns)) (q : Q (.d (.int (ns.count k : Nat))) S) : dRM K (rCntI K) x [.d (.int k)] S Q := fun v vs F H c o1 o2 Q' p => by
  obtain _ | ⟨oy, _ | _⟩ := o2
  cases oy
  have a1 := (sees_vi hx).at_ c o1
  cases a1 with
  | lst h t =>
    have e := ints_of t
    subst e
    exact ⟨_, ns, k, rfl, rfl, h, p _ F H _ S (.refl F) c (okD (.int _)) q⟩
theorem r_isB {a b : Bool} (q : Q (.d (.bool (decide (a = b)))) S) : dR2 K rIsB (.d (.bool a)) (.d (.bool b)) S Q := fun v u F H c o1 o2 Q' p => by
  cases o1; cases o2
  exact ⟨a, b, rfl, rfl, p _ F H _ S (.refl F) c (okD (.bl _)) q⟩
/-- an expression's store may be made smaller -/
theorem d_less (h : dE K te Γ S fun x S1 => ∃ S2, S2.Sublist S1 ∧ Q x S2) : dE K te Γ S Q := fun σ F H s c Q' p =>
  h σ F H s c _ fun v F1 H1 x S1 e1 c1 o1 ⟨S2, l, q⟩ => p v F1 H1 x S2 e1 (c1.sub l) o1 q
/-! ### dicts, as data from the start -/
theorem Cf.newD (c : Cf K S F H) {p : Addr} (hp : H p = none) {kvs : List (Key × V)} : Same F (upd F p (.dK kvs)) ∧ Cf K S (upd F p (.dK kvs)) (upd H p (.dK kvs)) := by
  obtain ⟨h1, h2⟩ := c.fresh hp
  have s1 : Same F (upd F p (.dK kvs)) := same_new h2
  refine ⟨s1, ⟨fun a u e => ?_, c.nd, fun q hq => ?_, fun q hq => ((c.ok q hq).grow (same_new hp)).freeze s1⟩⟩
  · by_cases ha : a = p
    · subst ha
      rw [upd_same] at e ⊢
      exact e
    · rw [upd_ne ha] at e ⊢
      exact c.ex a u e
  · rw [upd_ne (fun z => h1 (by rw [← z]; exact List.mem_map_of_mem hq))]
    exact c.fr q hq
theorem d_dnew (q : Q (.d (.dict [])) S) : dE K tDNewK Γ S Q := fun σ F H s c Q' p a ha => by
  obtain ⟨s1, c1⟩ := c.newD (kvs := []) ha
  exact p _ _ _ (.d (.dict [])) S s1 c1 (show At K _ _ _ from At.dct (kvs := []) (ds := []) upd_same .nil) q
theorem upd_upd' {H : Hp} {p : Addr} {o o' : HO} : upd (upd H p o) p o' = upd H p o' := by
  funext a
  by_cases h : a = p
  · subst h; rw [upd_same, upd_same]
  · rw [upd_ne h, upd_ne h, upd_ne h]
theorem d_disp1 {k : Str} {i : Int} (q : Q (.d (.dict [(.str k, .int i)])) S) : dE K (tDisp [(tC (.str k), tC (.int i))]) Γ S Q := fun σ F H s c Q' p a ha => by
  obtain ⟨s1, c1⟩ := c.newD (kvs := [(.inr k, .int i)]) ha
  refine ⟨upd_same, [(.inr k, .int i)], rfl, by show 1 ≤ 15; decide, ?_⟩
  rw [upd_upd']
  exact p _ _ _ (.d (.dict [(.str k, .int i)])) S s1 c1 (show At K _ _ _ from At.dct (kvs := [(.inr k, .int i)]) (ds := [.int i]) upd_same (.cons (.int i) .nil)) q
/-! ### repr of data, a dict of ints at its top too -/
def flatDct (d : PyData) : Prop := ∃ kvs : List (Key × Int), d = .dict (kvs.map fun p => (keyD p.1, .int p.2))
def rReprX (K : PySem.W.Frag) : List V → Hp → VK → Prop := fun xs H Q => ∃ x d, xs = [x] ∧ At K H x d ∧ (d.hasDict = false ∨ flatDct d) ∧ d.showable = true ∧ d.depth ≤ 60 ∧ d.shown.length ≤ sizeLine ∧ Q (.str d.shown) H
theorem r_reprX {d : PyData} (hx : Sees S x d) (nd : d.hasDict = false ∨ flatDct d) (sh : d.showable = true) (dp : d.depth ≤ 60) (sz : d.shown.length ≤ sizeLine) (q : Q (.d (.str d.shown)) S) : dRL K (rReprX K) [x] S Q := fun vs F H c o Q' p => by
  obtain _ | ⟨o1, _ | _⟩ := o
  exact ⟨_, d, rfl, hx.at_ c o1, nd, sh, dp, sz, p _ F H _ S (.refl F) c (okD (.str _)) q⟩
theorem int_read {h : Heap} {x : V} {u : Value} {i : Int} (a : At K H x (.int i)) (r : L2.RelV x u) : Reads h u (.int i) [] := by
  cases a
  obtain ⟨t', e2⟩ := r
  rw [e2]
  exact .int i t'
theorem readsAll_keys {h : Heap} {P : Program} {w : World} : ∀ {es : List DictEntry} {vs : List (Key × Value)} {kvs : List (Key × V)} {ds : List PyData}, Pairs (mixKind P w) es vs → KV kvs vs → AtAll K H (kvs.map (·.2)) ds → (∀ d ∈ ds, ∃ i, d = .int i) →
    ReadsAll h (es.map (·.key)) (((kvs.map fun p => keyD p.1).zip ds).map (·.1)) [] ∧ ReadsAll h (es.map (·.val)) (((kvs.map fun p => keyD p.1).zip ds).map (·.2)) []
  | _, _, _, _, .nil, r, _, _ => by cases r; exact ⟨.nil, .nil⟩
  | _, _, _, _, .cons hk hv t, r, a, hi => by
    cases r with
    | cons r0 rt =>
      cases a with
      | cons a0 at_ =>
        obtain ⟨h1, h2⟩ := readsAll_keys t rt at_ fun d hd => hi d (List.mem_cons_of_mem _ hd)
        obtain ⟨i, rfl⟩ := hi _ List.mem_cons_self
        obtain ⟨e1, e2⟩ := r0
        refine ⟨ReadsAll.cons (as := []) ?_ h1, ReadsAll.cons (as := []) ?_ h2⟩
        · dsimp only
          rcases keyIs_shape hk with ⟨j, u, e, ek⟩ | ⟨j, u, e, ek⟩
          · rw [ek, e1, e]; exact .int j u
          · rw [ek, e1, e]; exact .str j u
        · dsimp only
          rw [hv]
          exact int_read a0 e2
end
theorem flat_ints {K : PySem.W.Frag} {H : Hp} {kvs : List (Key × V)} {ds : List PyData} (h : flatDct (.dict ((kvs.map fun p => keyD p.1).zip ds))) (l : kvs.length = ds.length) : ∀ d ∈ ds, ∃ i, d = .int i := by
  obtain ⟨ks, e⟩ := h
  injection e with e
  intro d hd
  obtain ⟨j, hj, rfl⟩ := List.getElem_of_mem hd
  have e2 := congrArg (fun l => l[j]?) e
  have e2 : ((kvs.map fun p => keyD p.1).zip ds)[j]? = (ks.map fun p => (keyD p.1, PyData.int p.2))[j]? := e2
  have hz : j < ((kvs.map fun p => keyD p.1).zip ds).length := by rw [List.length_zip, List.length_map]; omega
  rw [List.getElem?_eq_getElem hz, List.getElem_zip, List.getElem?_map] at e2
  cases hk : ks[j]? with
  | none => rw [hk] at e2; cases e2
  | some q =>
    rw [hk] at e2
    have := congrArg (fun o => o.map Prod.snd) e2
    exact ⟨q.2, Option.some.inj this⟩
theorem c_reprX {X : Cx} (K : PySem.W.Frag) {k : Nat} (hr : Room k X.A) (gd : Gd X.A) (h : X.K = K := by rfl) : CallR X (.builtin "repr") (rReprX K) := by
  subst h
  rintro pins s σ H xs us Q I r ⟨x, d, rfl, hd, nd, sh, dp, sz, q⟩
  rcases nd with nd | nd
  · exact c_repr X.K hr gd rfl pins s σ H _ us Q I r ⟨x, d, rfl, hd.dp nd, sh, nd, dp, sz, q⟩
  have hd' := hd
  cases hd with
  | dct e t =>
    rename_i a kvs ds
    obtain ⟨u, rfl, ru⟩ := vals1 r
    cases ru
    obtain ⟨z, hs, vs, rel, o, es, ep, ho, hex, hda, _, pr, _⟩ := dk_of I.hok e
    have hl : kvs.length = ds.length := by
      have := plen (atAll_to t)
      rw [List.length_map] at this
      exact this
    obtain ⟨k1, k2⟩ := readsAll_keys (h := s.heap) pr rel t (flat_ints (K := X.K) (H := H) nd hl)
    have rd : Reads s.heap (.ref a) (.dict ((kvs.map fun p => keyD p.1).zip ds)) (a :: [] ++ []) := .dict ho hex.1 hda k1 k2
    refine repr_of_reads' rd sh (fun _ hm => ?_) gd (by have := hr.un; omega) (fun _ _ z => z) (fun h' u tk kp => ?_) sz
    · have hm : sysModules = a := by simpa using hm
      rw [hm] at hs
      simp at hs
    · exact ⟨.str _, H, I.kept (h' := h') (t' := tk) kp, ⟨_, rfl⟩, q⟩
  | _ => obtain ⟨ks, e⟩ := nd; cases e
/-! ### data of known leaves, k deep -/
def okInt (i : Int) : Bool := (decide (-2 ≤ i) && decide (i < 200)) || decide (i = 10 ^ 12) || (decide (0 ≤ i) && decide (i ≤ 10 ^ 9))
def okStr (s : Str) : Bool := decide (s = Str.ofString "") || decide (s = Str.ofString "0") || decide (s = Str.ofString "01") || decide (s = Str.ofString "1")
def okT : Nat → PyData → Bool
  | _, .none => true
  | _, .bool _ => true
  | _, .int i => okInt i
  | _, .str s => okStr s
  | k + 1, .list ds => decide (ds.length ≤ 20) && ds.all (okT k)
  | k + 1, .tuple ds => decide (ds.length ≤ 20) && ds.all (okT k)
  | _, _ => false
def okB : Nat → Nat
  | 0 => 2
  | k + 1 => 20 * (okB k + 1)
theorem okB_2 : ∀ k, 2 ≤ okB k
  | 0 => Nat.le_refl _
  | k + 1 => by
    have := okB_2 k
    show 2 ≤ 20 * (okB k + 1)
    omega
theorem smallI : ∀ n : Fin 202, PyData.strOk (PyData.int ((n.val : Int) - 2)).shown = true ∧ (PyData.int ((n.val : Int) - 2)).shown.length ≤ 16 := by decide +kernel
theorem bigI : PyData.strOk (PyData.int (10 ^ 12)).shown = true ∧ (PyData.int (10 ^ 12)).shown.length ≤ 16 ∧ (10 ^ 12 : Int).natAbs.log2 < 1920 := by decide +kernel
theorem int_shown {i : Int} (h0 : 0 ≤ i) (h1 : i ≤ 10 ^ 9) : PyData.strOk (PyData.int i).shown = true ∧ (PyData.int i).shown.length ≤ 16 ∧ i.natAbs.log2 < 1920 := by
  refine ⟨?_, ?_, ?_⟩
  · unfold PyData.strOk
    rw [← Array.all_toList, List.all_eq_true]
    intro k hk
    refine decide_eq_true ?_
    by_cases c : k ≠ 45 ∧ (k < 48 ∨ 57 < k)
    · exact absurd hk (shown_int_free' c i)
    · omega
  · obtain ⟨n, rfl⟩ := Int.eq_ofNat_of_zero_le h0
    have e := (Nat.length_repr_le_iff (n := n) (k := 16) (by decide : 0 < 16)).mpr (by omega)
    rw [PyData.shown_int]
    have h3 : (Str.ofString (Nat.repr n)).cps.toList.length ≤ 16 := by
      rw [signs_ofString, List.length_map, String.length_toList]
      exact e
    exact h3
  · by_cases c : i.natAbs = 0
    · rw [c]
      decide
    · have h3 : i.natAbs < 2 ^ 40 := by omega
      have := (Nat.log2_lt c).mpr h3
      omega
theorem okInt_f {i : Int} (h : okInt i = true) : PyData.strOk (PyData.int i).shown = true ∧ (PyData.int i).shown.length ≤ 16 ∧ i.natAbs.log2 < 1920 := by
  unfold okInt at h
  rw [Bool.or_eq_true, Bool.or_eq_true, Bool.and_eq_true, Bool.and_eq_true, decide_eq_true_eq, decide_eq_true_eq, decide_eq_true_eq, decide_eq_true_eq, decide_eq_true_eq] at h
  rcases h with (⟨h1, h2⟩ | h) | ⟨h1, h2⟩
  · have e := smallI ⟨(i + 2).toNat, by omega⟩
    rw [show ((⟨(i + 2).toNat, by omega⟩ : Fin 202).val : Int) - 2 = i by show ((i + 2).toNat : Int) - 2 = i; omega] at e
    exact ⟨e.1, e.2, Nat.lt_of_le_of_lt (Nat.log2_le_self _) (by omega)⟩
  · rw [h]
    exact bigI
  · exact int_shown h1 h2
theorem okStr_f {s : Str} (h : okStr s = true) : PyData.strOk (PyData.str s).shown = true ∧ (PyData.str s).leavesShort 16 = true ∧ (PyData.str s).bulk ≤ 2 := by
  unfold okStr at h
  simp only [Bool.or_eq_true, decide_eq_true_eq] at h
  rcases h with ((rfl | rfl) | rfl) | rfl <;> decide +kernel
theorem join_ok : ∀ ts : List Str, (∀ t ∈ ts, PyData.strOk t = true) → PyData.strOk (Str.join (Str.ofString ", ") ts) = true
  | [], _ => by decide +kernel
  | [x], h => h x List.mem_cons_self
  | x :: y :: r, h => by
    have ih := join_ok (y :: r) fun t ht => h t (List.mem_cons_of_mem _ ht)
    show PyData.strOk (x ++ Str.ofString ", " ++ Str.join (Str.ofString ", ") (y :: r)) = true
    rw [strOk_app, strOk_app, h x List.mem_cons_self, ih]
    decide +kernel
theorem tupleText_ok {ts : List Str} (hs : ∀ t ∈ ts, PyData.strOk t = true) : PyData.strOk (tupleText ts) = true := by
  unfold tupleText
  rw [strOk_app, strOk_app, show PyData.strOk (Str.join _ ts) = true from join_ok ts hs]
  split <;> decide +kernel
theorem okT_f : ∀ (k : Nat) (d : PyData), okT k d = true → (PyData.strOk d.shown = true ∧ d.showable = true ∧ d.hasDict = false) ∧ d.leavesShort 16 = true ∧ d.bulk ≤ okB k ∧ d.depth ≤ k + 1 := by
  have sq : ∀ (k : Nat), (∀ d : PyData, okT k d = true → (PyData.strOk d.shown = true ∧ d.showable = true ∧ d.hasDict = false) ∧ d.leavesShort 16 = true ∧ d.bulk ≤ okB k ∧ d.depth ≤ k + 1) →
      ∀ ds : List PyData, ds.all (okT k) = true → (∀ t ∈ ds.map PyData.shown, PyData.strOk t = true) ∧ PyData.showableAll ds = true ∧ PyData.hasDictAll ds = false ∧ PyData.leavesShortAll 16 ds = true ∧ PyData.bulkAll ds ≤ ds.length * (okB k + 1) ∧ PyData.depthAll ds ≤ k + 1 := by
    intro k ih ds
    induction ds with
    | nil => exact fun _ => ⟨fun t h => (by cases h), by simp [PyData.showableAll], by simp [PyData.hasDictAll], by simp [PyData.leavesShortAll], by simp [PyData.bulkAll], by simp [PyData.depthAll]⟩
    | cons d ds ih2 =>
      intro h
      rw [List.all_cons, Bool.and_eq_true] at h
      obtain ⟨⟨a1, a2, a3⟩, a4, a5, a6⟩ := ih d h.1
      obtain ⟨b1, b2, b3, b4, b5, b6⟩ := ih2 h.2
      refine ⟨fun t ht => ?_, by rw [PyData.showableAll, a2, b2]; rfl, by rw [PyData.hasDictAll, a3, b3]; rfl, by rw [PyData.leavesShortAll, a4, b4]; rfl, ?_, by rw [PyData.depthAll]; omega⟩
      · rw [List.map_cons] at ht
        rcases List.mem_cons.mp ht with rfl | ht
        · exact a1
        · exact b1 t ht
      · rw [PyData.bulkAll, List.length_cons, Nat.succ_mul]
        omega
  have leaf : ∀ (k : Nat) (d : PyData), (∀ k', okT k' d = okT 0 d) → okT 0 d = true → (PyData.strOk d.shown = true ∧ d.showable = true ∧ d.hasDict = false) ∧ d.leavesShort 16 = true ∧ d.bulk ≤ okB k ∧ d.depth ≤ k + 1 := by
    intro k d _ h
    have hb := okB_2 k
    match d, h with
    | .none, _ => exact ⟨⟨by decide +kernel, by simp [PyData.showable], by simp [PyData.hasDict]⟩, by simp [PyData.leavesShort], by simp [PyData.bulk], by simp [PyData.depth]⟩
    | .bool b, _ => exact ⟨⟨by cases b <;> decide +kernel, by simp [PyData.showable], by simp [PyData.hasDict]⟩, by simp [PyData.leavesShort], by simp [PyData.bulk], by simp [PyData.depth]⟩
    | .int i, h =>
      obtain ⟨h1, h2, h3⟩ := okInt_f (i := i) (by simpa only [okT] using h)
      exact ⟨⟨h1, by rw [PyData.showable]; exact decide_eq_true h3, by simp [PyData.hasDict]⟩, by rw [PyData.leavesShort]; exact decide_eq_true h2, by simp [PyData.bulk], by simp [PyData.depth]⟩
    | .str s, h =>
      obtain ⟨h1, h2, h3⟩ := okStr_f (s := s) (by simpa only [okT] using h)
      exact ⟨⟨h1, by simp [PyData.showable], by simp [PyData.hasDict]⟩, h2, by omega, by simp [PyData.depth]⟩
    | .list _, h => simp [okT] at h
    | .tuple _, h => simp [okT] at h
    | .dict _, h => simp [okT] at h
  intro k
  induction k with
  | zero =>
    intro d h
    match d, h with
    | .none, h => exact leaf 0 _ (fun k' => by simp only [okT]) h
    | .bool b, h => exact leaf 0 _ (fun k' => by simp only [okT]) h
    | .int i, h => exact leaf 0 _ (fun k' => by simp only [okT]) h
    | .str s, h => exact leaf 0 _ (fun k' => by simp only [okT]) h
    | .list _, h => simp [okT] at h
    | .tuple _, h => simp [okT] at h
    | .dict _, h => simp [okT] at h
  | succ k ih =>
    intro d h
    match d, h with
    | .none, h => exact leaf (k + 1) _ (fun k' => by simp only [okT]) (by simpa only [okT] using h)
    | .bool b, h => exact leaf (k + 1) _ (fun k' => by simp only [okT]) (by simp only [okT])
    | .int i, h => exact leaf (k + 1) _ (fun k' => by simp only [okT]) (by simpa only [okT] using h)
    | .str s, h => exact leaf (k + 1) _ (fun k' => by simp only [okT]) (by simpa only [okT] using h)
    | .list ds, h =>
      simp only [okT, Bool.and_eq_true, decide_eq_true_eq] at h
      obtain ⟨b1, b2, b3, b4, b5, b6⟩ := sq k ih ds h.2
      have := Nat.mul_le_mul_right (okB k + 1) h.1
      refine ⟨⟨?_, by rw [PyData.showable]; exact b2, by rw [PyData.hasDict]; exact b3⟩, by rw [PyData.leavesShort]; exact b4, by rw [PyData.bulk]; show _ ≤ 20 * (okB k + 1); omega, by rw [PyData.depth]; omega⟩
      rw [PyData.shown, shownAll_eq_map]
      exact listText_ok b1
    | .tuple ds, h =>
      simp only [okT, Bool.and_eq_true, decide_eq_true_eq] at h
      obtain ⟨b1, b2, b3, b4, b5, b6⟩ := sq k ih ds h.2
      have := Nat.mul_le_mul_right (okB k + 1) h.1
      refine ⟨⟨?_, by rw [PyData.showable]; exact b2, by rw [PyData.hasDict]; exact b3⟩, by rw [PyData.leavesShort]; exact b4, by rw [PyData.bulk]; show _ ≤ 20 * (okB k + 1); omega, by rw [PyData.depth]; omega⟩
      rw [PyData.shown, shownAll_eq_map]
      exact tupleText_ok b1
    | .dict _, h => simp [okT] at h
/-- data that the laws' judges are asked about -/
def Nice (d : PyData) : Prop := okT 3 d = true ∨ d = .dict [] ∨ d = .dict [(.str (Str.ofString "0"), .int 0)]
theorem dict_facts : (PyData.strOk (PyData.dict []).shown = true ∧ (PyData.dict []).shown.length ≤ 100 ∧ (PyData.dict []).showable = true ∧ (PyData.dict []).depth ≤ 60) ∧
    (PyData.strOk (PyData.dict [(.str (Str.ofString "0"), .int 0)]).shown = true ∧ (PyData.dict [(.str (Str.ofString "0"), .int 0)]).shown.length ≤ 100 ∧ (PyData.dict [(.str (Str.ofString "0"), .int 0)]).showable = true ∧ (PyData.dict [(.str (Str.ofString "0"), .int 0)]).depth ≤ 60) := by decide +kernel
theorem okT_size {d : PyData} (h : okT 3 d = true) : d.shown.length ≤ sizeLine ∧ d.depth ≤ 60 := by
  obtain ⟨_, a4, a5, a6⟩ := okT_f 3 d h
  have e := PyData.shown_le_bulk 16 (by decide) d a4
  have c : sizeLine = 2 ^ 24 := rfl
  have o : okB 3 = 16000 + 8420 := rfl
  rw [o] at a5
  rw [c]
  omega
theorem Nice.ok {d : PyData} (h : Nice d) : PyData.strOk d.shown = true := by
  rcases h with h | rfl | rfl
  · exact (okT_f 3 d h).1.1
  · exact dict_facts.1.1
  · exact dict_facts.2.1
section
variable {K : PySem.W.Frag} {S : Sto} {Q : QE} {x : Va}
theorem r_reprN {d : PyData} (hx : Sees S x d) (h : Nice d) (q : Q (.d (.str d.shown)) S) : dRL K (rReprX K) [x] S Q := by
  have c : sizeLine = 2 ^ 24 := rfl
  rcases h with h | rfl | rfl
  · obtain ⟨⟨_, a2, a3⟩, _⟩ := okT_f 3 d h
    exact r_reprX hx (.inl a3) a2 (okT_size h).2 (okT_size h).1 q
  · exact r_reprX hx (.inr ⟨[], rfl⟩) dict_facts.1.2.2.1 dict_facts.1.2.2.2 (by have := dict_facts.1.2.1; omega) q
  · exact r_reprX hx (.inr ⟨[(.inr (Str.ofString "0"), 0)], rfl⟩) dict_facts.2.2.2.1 dict_facts.2.2.2.2 (by have := dict_facts.2.2.1; omega) q
end
theorem atD {ds : List PyData} {i : Int} (h0 : 0 ≤ i) (h1 : i < ds.length) : atI (ds.map Va.d) i = some (.d (ds.getD i.toNat .none)) := by
  refine atI_nat' h0 ?_
  have : i.toNat < ds.length := by omega
  rw [List.getElem?_map, List.getElem?_eq_getElem this, List.getD_eq_getElem?_getD, List.getElem?_eq_getElem this]
  rfl
/-! slices -/
theorem cut_to {xs : List Va} {n : Nat} (h : n ≤ xs.length) : cutA xs none (some (n : Int)) = xs.take n := by
  unfold cutA
  rw [HT.sIx_none, HT.sIx_nat, Nat.min_eq_left h, List.drop_zero, Nat.sub_zero]
theorem cut_from {xs : List Va} {n : Nat} (h : n ≤ xs.length) : cutA xs (some (n : Int)) none = xs.drop n := by
  unfold cutA
  rw [HT.sIx_none, HT.sIx_nat, Nat.min_eq_left h, List.take_of_length_le (by rw [List.length_drop]; exact Nat.le_refl _)]
theorem cut_toD {L : List PyData} {n : Nat} (h : n ≤ L.length) : cutA (L.map Va.d) none (some (n : Int)) = (L.take n).map Va.d := by
  rw [cut_to (by rw [List.length_map]; exact h), List.map_take]
theorem cut_fromD {L : List PyData} {n : Nat} (h : n ≤ L.length) : cutA (L.map Va.d) (some (n : Int)) none = (L.drop n).map Va.d := by
  rw [cut_from (by rw [List.length_map]; exact h), List.map_drop]
theorem frz_l {a : Addr} {xs : List Va} {ds : List PyData} {S S2 : Sto} (e : xs = ds.map Va.d) (h : S2.Sublist S) : Frz (.r a) ((a, .lst xs) :: S) (.list ds) S2 := by
  subst e
  exact .less .l h
theorem frz_t {a : Addr} {xs : List Va} {ds : List PyData} {S S2 : Sto} (e : xs = ds.map Va.d) (h : S2.Sublist S) : Frz (.r a) ((a, .tup xs) :: S) (.tuple ds) S2 := by
  subst e
  exact .less .t h
/-! ### written data -/
def LitE (K : PySem.W.Frag) (te : TE) (d : PyData) : Prop := ∀ Γ S Q, Q (.d d) S → dE K te Γ S Q
def LitA (K : PySem.W.Frag) (ta : TA) (ds : List PyData) : Prop := ∀ Γ S Q, Q (ds.map Va.d) S → dA K ta Γ S Q
section
variable {K : PySem.W.Frag} {Γ : Env} {S : Sto} {Q : QE} {te : TE} {ta : TA} {d : PyData} {ds : List PyData}
theorem d_lit (h : LitE K te d) (q : Q (.d d) S) : dE K te Γ S Q := h Γ S Q q
theorem lit_int {i : Int} : LitE K (tC (.int i)) (.int i) := fun _ _ _ q => d_int q
theorem lit_bl {i : Bool} : LitE K (tC (.bl i)) (.bool i) := fun _ _ _ q => d_bl q
theorem lit_str {i : Str} : LitE K (tC (.str i)) (.str i) := fun _ _ _ q => d_str q
theorem lit_non : LitE K (tC .non) .none := fun _ _ _ q => d_non q
theorem lit_dnew : LitE K tDNewK (.dict []) := fun _ _ _ q => d_dnew q
theorem lit_disp {k : Str} {i : Int} : LitE K (tDisp [(tC (.str k), tC (.int i))]) (.dict [(.str k, .int i)]) := fun _ _ _ q => d_disp1 q
theorem lit_un {i : Int} {g : Int → Int} : LitE K (tUn (rU fun i => .int (g i)) (tC (.int i))) (.int (g i)) := fun _ _ _ q => d_un (d_int (r_u q))
theorem lit_lst (h : LitA K ta ds) (hz : ds.length ≤ 100) : LitE K (tLst ta) (.list ds) := fun _ _ _ q => d_frz (d_lst (h _ _ _ ⟨by rw [List.length_map]; exact sz_le (by omega), fun p => ⟨_, _, .l, q⟩⟩))
theorem lit_tup (h : LitA K ta ds) (hz : ds.length ≤ 100) : LitE K (tTup ta) (.tuple ds) := fun _ _ _ q => d_frz (d_tup (h _ _ _ ⟨by rw [List.length_map]; exact sz_le (by omega), fun p => ⟨_, _, .t, q⟩⟩))
theorem lita_nil : LitA K tNil [] := fun _ _ _ q => d_anil q
theorem lita_cons (h : LitE K te d) (t : LitA K ta ds) : LitA K (tCons te ta) (d :: ds) := fun _ _ _ q => d_acons (h _ _ _ (t _ _ _ q))
theorem d_lit1 {i : Int} (q : Q (.d (li [i])) S) : dE K (tLst (tCons (tC (.int i)) tNil)) Γ S Q := d_lit (lit_lst (lita_cons lit_int lita_nil) (by show 1 ≤ 100; decide)) q
end
theorem sub_appL {α : Type} {a b c : List α} (h : a.Sublist b) : (a ++ c).Sublist (b ++ c) := h.append (.refl c)
theorem okT_up : ∀ (k : Nat) (d : PyData), okT k d = true → okT (k + 1) d = true
  | 0, .none, _ => by simp only [okT]
  | 0, .bool _, _ => by simp only [okT]
  | 0, .int _, h => by simpa only [okT] using h
  | 0, .str _, h => by simpa only [okT] using h
  | 0, .list _, h => by simp [okT] at h
  | 0, .tuple _, h => by simp [okT] at h
  | 0, .dict _, h => by simp [okT] at h
  | k + 1, .none, _ => by simp only [okT]
  | k + 1, .bool _, _ => by simp only [okT]
  | k + 1, .int _, h => by simpa only [okT] using h
  | k + 1, .str _, h => by simpa only [okT] using h
  | k + 1, .list ds, h => by
    rw [okT, Bool.and_eq_true, List.all_eq_true] at h
    rw [okT, Bool.and_eq_true, List.all_eq_true]
    exact ⟨h.1, fun d hd => okT_up k d (h.2 d hd)⟩
  | k + 1, .tuple ds, h => by
    rw [okT, Bool.and_eq_true, List.all_eq_true] at h
    rw [okT, Bool.and_eq_true, List.all_eq_true]
    exact ⟨h.1, fun d hd => okT_up k d (h.2 d hd)⟩
  | k + 1, .dict _, h => by simp [okT] at h
theorem okT_le {k m : Nat} {d : PyData} (h : okT k d = true) (e : k ≤ m) : okT m d = true := by
  induction e with
  | refl => exact h
  | step _ ih => exact okT_up _ d ih
theorem okT_l {k : Nat} {ds : List PyData} (h : ds.length ≤ 20) (h2 : ∀ d ∈ ds, okT k d = true) : okT (k + 1) (.list ds) = true := by
  rw [okT, decide_eq_true h, List.all_eq_true.mpr h2]
  rfl
theorem okT_t {k : Nat} {ds : List PyData} (h : ds.length ≤ 20) (h2 : ∀ d ∈ ds, okT k d = true) : okT (k + 1) (.tuple ds) = true := by
  rw [okT, decide_eq_true h, List.all_eq_true.mpr h2]
  rfl
theorem okT_i {k : Nat} {i : Int} (h : -2 ≤ i ∧ i < 200) : okT k (.int i) = true := by
  have : okInt i = true := by
    unfold okInt
    rw [decide_eq_true h.1, decide_eq_true h.2]
    rfl
  cases k <;> simpa only [okT] using this
theorem okT_b {k : Nat} {i : Int} (h : 0 ≤ i ∧ i ≤ 10 ^ 9) : okT k (.int i) = true := by
  have : okInt i = true := by
    unfold okInt
    rw [decide_eq_true h.1, decide_eq_true h.2, Bool.true_and, Bool.or_true]
  cases k <;> simpa only [okT] using this
theorem okT_ns {k : Nat} {ns : List Int} (hb : ∀ n ∈ ns, 0 ≤ n ∧ n < 100) : ∀ d ∈ ns.map PyData.int, okT k d = true := fun d hd => by
  obtain ⟨n, hn, rfl⟩ := List.mem_map.mp hd
  have := hb n hn
  exact okT_i (by omega)
/-! ### rows that lift one place -/
def plR (p h t : Int) : Int := if p = h then t else if h < p ∧ p ≤ t then p - 1 else p
def rowM (n : Nat) (h t : Int) : List Int := (List.range n).map fun (j : Nat) => plR j h t
theorem rowM_len (n : Nat) (h t : Int) : (rowM n h t).length = n := by
  unfold rowM
  rw [List.length_map, List.length_range]
theorem rowM_isP {n : Nat} {h t : Int} (h0 : 0 ≤ h) (h1 : h ≤ t) (h2 : t < n) : IsP (rowM n h t) := by
  refine isP_of ?_ ?_
  · unfold rowM
    rw [List.nodup_iff_pairwise_ne, List.pairwise_map]
    refine List.pairwise_lt_range.imp ?_
    intro a b hab e
    unfold plR at e
    split at e <;> split at e <;> (try split at e) <;> (try split at e) <;> omega
  · intro x hx
    rw [rowM_len]
    unfold rowM at hx
    obtain ⟨j, hj, rfl⟩ := List.mem_map.mp hx
    have := List.mem_range.mp hj
    unfold plR
    split
    · omega
    · split <;> omega
theorem rg_get {n i : Nat} (h : i < n) : (rg (n : Int))[i]? = some (i : Int) := by
  unfold rg
  rw [List.getElem?_map, Int.toNat_natCast, List.getElem?_range h]
  rfl
theorem row_split {n s g : Nat} (h1 : s ≤ g) (h2 : g < n) : (rg (n : Int)).take s ++ [(g : Int)] ++ (((rg (n : Int)).drop (s + 1)).take (g - s)).map (fun x => x - 1) ++ (rg (n : Int)).drop (g + 1) = rowM n s g := by
  have hl : (rg (n : Int)).length = n := by rw [rg_len]; omega
  refine List.ext_getElem? fun i => ?_
  by_cases hi : i < n
  · have hr : (rowM n s g)[i]? = some (plR i s g) := by
      unfold rowM
      rw [List.getElem?_map, List.getElem?_range hi]
      rfl
    rw [hr]
    by_cases c1 : i < s
    · rw [List.append_assoc, List.append_assoc, List.getElem?_append_left (by rw [List.length_take]; omega), List.getElem?_take, if_pos c1, rg_get hi]
      unfold plR
      rw [if_neg (by omega), if_neg (by omega)]
    by_cases c2 : i = s
    · subst c2
      rw [List.append_assoc, List.append_assoc, List.getElem?_append_right (by rw [List.length_take]; omega), List.length_take, hl, Nat.min_eq_left (by omega), Nat.sub_self]
      unfold plR
      rw [if_pos rfl]
      rfl
    by_cases c3 : i ≤ g
    · rw [List.append_assoc, List.getElem?_append_right (by rw [List.length_append, List.length_take]; simp only [List.length_cons, List.length_nil]; omega)]
      rw [List.length_append, List.length_take, hl, Nat.min_eq_left (by omega)]
      simp only [List.length_cons, List.length_nil]
      rw [List.getElem?_append_left (by rw [List.length_map, List.length_take, List.length_drop, hl]; omega), List.getElem?_map, List.getElem?_take, if_pos (by omega), List.getElem?_drop, show s + 1 + (i - (s + (0 + 1))) = i by omega, rg_get hi]
      unfold plR
      rw [if_neg (by omega), if_pos (by omega)]
      rfl
    · rw [List.getElem?_append_right (by rw [List.length_append, List.length_append, List.length_take, List.length_map, List.length_take, List.length_drop, hl]; simp only [List.length_cons, List.length_nil]; omega)]
      rw [List.length_append, List.length_append, List.length_take, List.length_map, List.length_take, List.length_drop, hl]
      simp only [List.length_cons, List.length_nil]
      rw [List.getElem?_drop, show g + 1 + (i - (min s n + (0 + 1) + min (g - s) (n - (s + 1)))) = i by omega, rg_get hi]
      unfold plR
      rw [if_neg (by omega), if_neg (by omega)]
  · rw [List.getElem?_eq_none (by simp only [List.length_append, List.length_take, List.length_map, List.length_drop, hl, List.length_cons, List.length_nil]; omega), List.getElem?_eq_none (by rw [rowM_len]; omega)]
theorem cut_mid {xs : List Va} {a b : Nat} (h1 : a ≤ xs.length) (h : b ≤ xs.length) : cutA xs (some (a : Int)) (some (b : Int)) = (xs.drop a).take (b - a) := by
  unfold cutA
  rw [HT.sIx_nat, HT.sIx_nat, Nat.min_eq_left h1, Nat.min_eq_left h]
theorem vi_take (ns : List Int) (k : Nat) : (vi ns).take k = vi (ns.take k) := by
  unfold vi
  rw [List.map_take]
theorem vi_drop (ns : List Int) (k : Nat) : (vi ns).drop k = vi (ns.drop k) := by
  unfold vi
  rw [List.map_drop]
theorem getDm {L : List PyData} {k : Nat} (h : k < L.length) : L.getD k .none ∈ L := by
  rw [List.getD_eq_getElem?_getD, List.getElem?_eq_getElem h]
  exact List.getElem_mem _
end DL

/-! DT: len(set(xs)) of a list of texts that are all different. -/
namespace DL
open PySem PySem.Spec PyProof.Rows L2

/-- the first i texts, as a set -/
def seenT (xs : List Str) (i : Nat) : Str → Bool := fun c => (xs.take i).any (· == c)
theorem seenT_next {xs : List Str} {i : Nat} (hi : i < xs.length) (c : Str) : seenT xs (i + 1) c = (seenT xs i c || decide (c = xs.getD i Str.empty)) := by
  unfold seenT
  rw [List.take_add_one, List.getElem?_eq_getElem hi, List.any_append, List.getD_eq_getElem?_getD, List.getElem?_eq_getElem hi]
  congr 1
  show ([xs[i]].any (· == c)) = decide (c = xs[i])
  rw [List.any_cons, List.any_nil, Bool.or_false]
  by_cases h : c = xs[i]
  · rw [h]; simp
  · rw [decide_eq_false h]
    exact beq_eq_false_iff_ne.mpr fun z => h z.symm
theorem seenT_fresh {xs : List Str} (nd : xs.Nodup) {i : Nat} (hi : i < xs.length) : seenT xs i (xs.getD i Str.empty) = false := by
  unfold seenT
  rw [List.getD_eq_getElem?_getD, List.getElem?_eq_getElem hi]
  refine Bool.eq_false_iff.mpr fun h => ?_
  obtain ⟨y, hy, e⟩ := List.any_eq_true.mp h
  have e : y = xs[i] := eq_of_beq e
  subst e
  obtain ⟨j, hj, ej⟩ := List.getElem_of_mem hy
  rw [List.length_take] at hj
  rw [List.getElem_take] at ej
  have := (List.getElem_inj nd).mp ej
  omega
section
variable {P : Program} {w : World} {A : Around} {it : Addr} {foot wrt : List Addr} {G : Array GenState → Array GenState → Prop} {n : Nat} {Y : Nat → Value → Prop} {St : Nat → Shared → Prop} {R : Result → Shared → Prop}
theorem set_over {h h' : Heap} {b : Addr} {T : Str → Bool} {m : Nat} (k : ∀ o, h.get? b = some o → h'.get? b = some o) (q : h.SetOf (PySem.strKind P w) b T m) : h'.SetOf (PySem.strKind P w) b T m := by
  rcases q with ⟨o, es, ep, t, e, r⟩
  exact ⟨o, es, ep, t, k o e, r⟩
theorem texts_put (W : WalksS P w A.in1 it foot wrt G n Y St) {b : Addr} (hb : b ∉ foot) {xs : List Str} (nd : xs.Nodup) (hl : xs.length = n) (few : n + 1 < scanBound) (hv : ∀ i u, Y i u → ∃ t, u = .str (xs.getD i Str.empty) t) :
    ∀ (left i : Nat) (s : Shared), i + left = n → St i s → s.heap.SetOf (PySem.strKind P w) b (seenT xs i) i → (∀ s₂, Moved (b :: wrt) G s s₂ → s₂.heap.SetOf (PySem.strKind P w) b (seenT xs n) n → R (.ok (.ret .none)) s₂) →
      codeAny (model P w) A (.builtin "set.update.loop" ⟨[.ref b, .ref it], []⟩) R s := by
  have out : b ∉ wrt := fun z => hb (W.sub b z)
  have more : ∀ c, c ∈ wrt → c ∈ b :: wrt := fun c z => .tail _ z
  intro left
  induction left with
  | zero =>
    intro i s e st q fin
    obtain rfl : i = n := e
    apply codeAny_builtin PyProof.Rows.F.entry_set_update_loop
    rw [Around.under_plainId PyProof.Rows.F.plain_set_update_loop _]
    apply wpAny_bind (α := Option Value)
    apply W.done s _ _ st
    intro s₂ mv
    apply wpAny_pure
    exact fin s₂ (mv.mono more) (set_over (fun o z => mv.heap b o out z) q)
  | succ left ih =>
    intro i s e st q fin
    have hi : i < n := by omega
    have hix : i < xs.length := by omega
    apply codeAny_builtin PyProof.Rows.F.entry_set_update_loop
    rw [Around.under_plainId PyProof.Rows.F.plain_set_update_loop _]
    apply wpAny_bind (α := Option Value)
    apply W.item i s _ _ hi st
    intro u s₂ hy st₂ mv
    obtain ⟨t, rfl⟩ := hv i u hy
    have q₂ := set_over (P := P) (w := w) (fun o z => mv.heap b o out z) q
    apply wpAny_bind (α := Bool)
    apply wpAny_holding
    unfold setAdd
    apply wpAny_holding
    apply wpAny_bind ((PySem.strKind P w).pyHash (k := xs.getD i Str.empty) (strKind_is _ _ _ _) _)
    apply wpAny_setAddHashed_of (knd := PySem.strKind P w) (s := { s₂ with toks := s₂.toks + 1 }) (strKind_is _ _ _ _) rfl q₂ (by omega)
    intro h₃ sb q₃
    rw [seenT_fresh nd hix, if_neg Bool.false_ne_true] at q₃
    have q₃ : h₃.SetOf (PySem.strKind P w) b (seenT xs (i + 1)) (i + 1) := PyProof.Rows.SetOf_congr q₃ (fun c => (seenT_next hix c).symm) rfl
    have st₃ := W.frame (i + 1) s₂ h₃ (s₂.toks + 1) st₂ (Nat.le_succ _) fun c hc o z => by
      rw [sb.2 c fun y => hb (y ▸ hc)]
      exact z
    apply wpAny_pure
    refine ⟨plainId_quiet PyProof.Rows.F.plain_set_update_loop _, ih (i + 1) _ (by omega) st₃ q₃ fun s₄ mv₄ q₄ => fin s₄ ?_ q₄⟩
    refine Moved.trans W.gtrans ((mv.mono more).then_heap (Nat.le_succ _) fun c o hc z => ?_) mv₄
    rw [sb.2 c fun y => hc (y ▸ List.mem_cons_self)]
    exact z
end
section
variable {P : Program} {w : World} {A : Around} {E : Value → Shared → Prop} {s : Shared}
/-- a set that was just begun -/
abbrev begun (led : Bool) : Obj := { cls := .type "set", dict := none, data := .set #[] 0 (.fresh 0 0 led) }
theorem set_texts {l : Addr} {its : Array Value} {xs : List Str} {Q : Value → Shared → Prop} (calm : A.handled = none) (at_ : s.heap.IsList l its) (are : PyProof.Rows.StrsAre its.toList xs) (nd : xs.Nodup) (few : xs.length + 1 < scanBound)
    (fin : ∀ (h₂ : Heap) (k : Nat), h₂.SetOf (PySem.strKind P w) s.heap.objs.size (seenT xs xs.length) xs.length → (∀ b o, b < s.heap.objs.size → s.heap.get? b = some o → h₂.get? b = some o) → Q (.ref s.heap.objs.size) { s with heap := h₂, toks := k }) :
    wpAny (model P w) A (call (.type "set") [.ref l]) Q E s := by
  have hsz : xs.length = its.size := by rw [← StrsAre.len_eq are, Array.length_toList]
  obtain ⟨m1, m2, m3⟩ := PySem.F.called_set.mro
  have f1 := PySem.F.called_set.made
  have f2 := PySem.F.called_set.sub
  have f3 := PySem.F.called_set.notType
  have f4 := PySem.F.called_set.canCreate
  have f5 := PySem.F.typeCall_set_1 (.ref l)
  apply wpAny_call
  apply codeAny_of_tree
  show wpAny _ _ (callAny (Value.type "set") _) _ _ _
  apply wpAny_pure
  refine ⟨Code.quiet_builtin _ (by decide +kernel), ?_⟩
  apply codeAny_builtin PySem.F.entry_type_call
  rw [Around.under_plain (weight_type_call_type "set" [.ref l] []) rfl]
  repeat (any_goals (first | wp_step | assumption))
  refine codeAny_mono (code_set_new_1 (.ref l) (E := E) (Q₁ := fun v t => ∃ led : Bool, v = .ref s.heap.objs.size ∧ t = { s with heap := s.heap.push (begun led) }) fun led => ⟨led, rfl, rfl⟩) ?_
  intro r t hr
  match r, hr with
  | .error _, hr => exact hr
  | .ok (.ret v), hr =>
    obtain ⟨led, rfl, rfl⟩ := hr
    have new : (s.heap.push (begun led)).get? s.heap.objs.size = some (begun led) := Heap.get?_push_size _ rfl
    have ty : Shared.TypeIs { s with heap := s.heap.push (begun led) } (.ref s.heap.objs.size) "set" := ⟨begun led, new, rfl⟩
    have g1 := PySem.F.called_set.init.lookup
    have g2 := PySem.F.called_set.init.bind (.ref s.heap.objs.size)
    repeat (any_goals (first | wp_step | assumption))
    refine codeAny_mono (codeAny_call_builtin (R := wants (fun v t => v = .none ∧ ∃ h₂ k, t = { s with heap := h₂, toks := k } ∧ h₂.SetOf (PySem.strKind P w) s.heap.objs.size (seenT xs xs.length) xs.length ∧
      ∀ b o, b < s.heap.objs.size → s.heap.get? b = some o → h₂.get? b = some o) E) PySem.F.called_set.init.plain PySem.F.entry_set_init (check_set_init_1 ty ?_)) ?_
    · obtain ⟨⟨cl, di, da, sl⟩, e1, e2, nh, e3⟩ := at_
      dsimp only at e2 e3
      subst e2 e3
      have there : (s.heap.push (begun led)).get? l = some { cls := .type "list", dict := di, data := .seq its nh, slots := sl } := Heap.get?_push_of_some _ e1
      have lst : (s.heap.push (begun led)).IsList l its := ⟨_, there, rfl, nh, rfl⟩
      have k1 := PySem.F.sub_list_set
      have k2 := PySem.F.sub_list_frozenset
      have k3 : (Value.type "list" == Value.type "dict") = false := by decide
      unfold Builtin.«set.__init__» noKeywords Builtin.Frozenset.updateFrom
      generalize hI : pyIter = I
      wp_walk
      subst hI
      apply wpAny_pyIter_list lst
      apply wpAny_bind
      apply wpAny_runValue
      have lo : l < s.heap.objs.size := Heap.lt_size e1
      have big : (s.heap.push (begun led)).objs.size = s.heap.objs.size + 1 := Heap.size_push _ _
      have calm₃ : A.in1.in1.in1.handled = none := by simp [calm]
      have ne1 : l ≠ (s.heap.push (begun led)).objs.size := fun z => Nat.lt_irrefl l (Nat.lt_trans lo (by rw [z, big]; exact Nat.lt_succ_self _))
      have ne2 : s.heap.objs.size ∉ [(s.heap.push (begun led)).objs.size, l] := by
        rw [big]
        simp only [List.mem_cons, List.not_mem_nil, or_false, not_or]
        exact ⟨fun z => Nat.lt_irrefl s.heap.objs.size (Nat.lt_of_lt_of_eq (Nat.lt_succ_self _) z.symm), fun z => Nat.lt_irrefl l (Nat.lt_of_lt_of_eq lo z)⟩
      have vals : ∀ (i : Nat) (u : Value), its[i]? = some u → ∃ t, u = .str (xs.getD i Str.empty) t := fun i u hu => SS.strs_at are i u (by rw [Array.getElem?_toList]; exact hu)
      refine texts_put ((Walks.list calm₃ _ l ne1 its).toS) ne2 nd hsz (by omega) vals its.size 0 _ (Nat.zero_add _) ⟨⟨_, Heap.get?_push_size _ rfl, rfl, rfl⟩, lst.push _⟩ ?_ ?_
      · exact PyProof.Rows.SetOf_congr ((PyProof.Rows.setObjOf_fresh (knd := PySem.strKind P w) led).setOf (Heap.get?_push_of_some _ new) (by unfold scanBound; omega)) (fun _ => rfl) rfl
      · rintro ⟨h₂, g₂, d₂, k₂, o₂⟩ mv q
        obtain rfl : g₂ = s.gens := mv.gens
        obtain rfl : d₂ = s.drawn := mv.drawn
        obtain rfl : o₂ = s.os := mv.os
        show wpAny _ _ _ _ _ _
        apply wpAny_pure
        show wpAny _ _ (ret Value.none) _ _ _
        apply wpAny_pure
        refine ⟨rfl, h₂, k₂, rfl, by rw [hsz]; exact q, fun b o hb e => mv.heap b o ?_ (Heap.get?_push_of_some _ (Heap.get?_push_of_some _ e))⟩
        rw [big]
        simp only [List.mem_cons, List.not_mem_nil, or_false, not_or]
        exact ⟨fun z => Nat.lt_irrefl b (Nat.lt_of_lt_of_eq hb z.symm), fun z => Nat.lt_irrefl b (Nat.lt_of_lt_of_eq (Nat.lt_succ_of_lt hb) z.symm)⟩
    · intro r₂ t₂ hr₂
      match r₂, hr₂ with
      | .error _, hr₂ => exact hr₂
      | .ok (.ret _), hr₂ =>
        obtain ⟨rfl, h₂, k₂, rfl, q, kp⟩ := hr₂
        repeat (any_goals (first | wp_step | assumption))
        exact fin _ _ q kp
      | .ok .next, hr₂ => exact hr₂.elim
      | .ok .brk, hr₂ => exact hr₂.elim
      | .ok .cont, hr₂ => exact hr₂.elim
  | .ok .next, hr => exact hr.elim
  | .ok .brk, hr => exact hr.elim
  | .ok .cont, hr => exact hr.elim
end
/-- the set of texts at b -/
def TxtSet (P : Program) (w : World) (b : Addr) (T : Str → Bool) (m : Nat) : HO := .ext fun h => h.SetOf (PySem.strKind P w) b T m
def rSetT (P : Program) (w : World) (K : PySem.W.Frag) : List V → Hp → VK → Prop := fun vs H Q => ∃ (l : Addr) (xs : List Str), vs = [.ref l] ∧ SqL K H l (xs.map V.str) ∧ xs.Nodup ∧ xs.length ≤ 3000 ∧ ∀ b, H b = none → Q (.ref b) (upd H b (TxtSet P w b (seenT xs xs.length) xs.length))
def rLenT (P : Program) (w : World) : List V → Hp → VK → Prop := fun vs H Q => ∃ (b : Addr) (T : Str → Bool) (m : Nat), vs = [.ref b] ∧ H b = some (TxtSet P w b T m) ∧ m ≤ 3000 ∧ Q (.int (m : Nat)) H
theorem k_setT {X : Cx} (K : PySem.W.Frag) (calm : X.calm = true := by rfl) (hK : X.K = K := by rfl) : CallR X (.type "set") (rSetT X.prog X.w K) := by
  subst hK
  rintro pins s σ H vs us Q I rel ⟨l, xs, rfl, at_, nd, few, q⟩
  obtain ⟨u, rfl, ru⟩ := vals1 rel
  cases ru
  obtain ⟨its, r, pl, _⟩ := I.list at_
  apply set_texts (I.ok.hd calm) pl.isList (xs := xs) (by simpa using strsAre_of r) nd (by unfold scanBound; omega)
  intro h₂ k q₂ kp
  have ex : ∃ o, h₂.get? s.heap.objs.size = some o := let ⟨o, _, _, _, e, _⟩ := q₂; ⟨o, e⟩
  have new : ObjOk X.prog X.w (upd H s.heap.objs.size (TxtSet X.prog X.w s.heap.objs.size (seenT xs xs.length) xs.length)) h₂ s.heap.objs.size (TxtSet X.prog X.w s.heap.objs.size (seenT xs xs.length) xs.length) := ⟨q₂, ex, fun h1 h2 z kk => set_over kk z⟩
  exact ⟨.ref s.heap.objs.size, _, I.laid (t' := k) (fun b o e => kp b o (Heap.lt_size e) e) (Nat.le_refl _) new, rfl, q _ (I.hok.fresh (Nat.le_refl _))⟩
theorem k_lenT {X : Cx} : CallR X (.builtin "len") (rLenT X.prog X.w) := by
  rintro pins s σ H vs us Q I rel ⟨b, T, m, rfl, at_, few, q⟩
  obtain ⟨u, rfl, ru⟩ := vals1 rel
  cases ru
  obtain ⟨o, es, ep, t, e1, e2, e3, _, _, _, e4, e5⟩ : s.heap.SetOf (PySem.strKind X.prog X.w) b T m := (I.hok b _ at_).1
  apply call_len_set e1 e2 e3 e4 (by rw [e5]; omega)
  exact ⟨.int m, H, I.tok _, ⟨_, by rw [e5]⟩, q⟩
section
variable {K : PySem.W.Frag} {S : Sto} {Γ : Env} {Q : QE} {te : TE} {P : Program} {w : World}
theorem d_lenSet (h : dE K te Γ S fun x S1 => ∃ xs : List Str, Lst S1 x (xs.map fun t => Va.d (.str t)) ∧ xs.Nodup ∧ xs.length ≤ 3000 ∧ Q (.d (.int (xs.length : Nat))) S1) :
    dE K (tCB (rLenT P w) (tCons (tCB (rSetT P w K) (tCons te tNil)) tNil)) Γ S Q := fun σ F H s c Q' p =>
  h σ F H s c _ fun v F1 H1 x S1 e1 c1 o1 ⟨xs, hl, nd, few, q⟩ => by
    obtain ⟨l, vs, rfl, h1, h2⟩ := hl.at_ c1 o1
    have ev : vs = xs.map V.str := by
      clear hl h1 nd few q
      induction xs generalizing vs with
      | nil => cases h2; rfl
      | cons y ys ih =>
        rw [List.map_cons] at h2 ⊢
        cases h2 with
        | cons a b =>
          cases a
          rw [ih _ b]
    subst ev
    refine ⟨l, xs, rfl, h1, nd, few, fun b hb => ⟨b, _, _, rfl, upd_same, few, ?_⟩⟩
    have fr := c1.fresh hb
    refine p _ F1 _ _ S1 e1 ⟨c1.ex.trans (same_new hb), c1.nd, c1.fr, fun q hq => (c1.ok q hq).grow (same_new hb)⟩ (okD (.int _)) q
end
end DL

/-! DD: dicts of ints as cells, stars in displays. -/
namespace DL
open PySem PySem.Spec PyProof.Rows L2

/-! ### dicts of ints -/
abbrev Di := List (Int × Int)
def kI (D : Di) : List (Key × V) := D.map fun p => (.inl p.1, .int p.2)
def getI (D : Di) (k : Int) : Option Int := (D.find? fun p => decide (p.1 = k)).map (·.2)
def putI (D : Di) (k v : Int) : Di := if (D.any fun p => decide (p.1 = k)) = true then D.map (fun p => if p.1 = k then (p.1, v) else p) else D ++ [(k, v)]
def dropI (D : Di) (k : Int) : Di := D.filter fun p => decide (p.1 ≠ k)
theorem inl_dec (a b : Int) : decide ((Sum.inl a : Key) = .inl b) = decide (a = b) := by
  by_cases h : a = b
  · subst h; simp
  · rw [decide_eq_false h, decide_eq_false fun z => h (Sum.inl.inj z)]
theorem valV_kI (k : Int) : ∀ D : Di, valV (kI D) (.inl k) = (getI D k).map V.int
  | [] => rfl
  | p :: D => by
    have ih := valV_kI k D
    unfold valV getI kI at ih ⊢
    rw [List.map_cons, List.find?_cons, List.find?_cons]
    dsimp only
    rw [inl_dec]
    by_cases h : p.1 = k
    · rw [decide_eq_true h]; rfl
    · rw [decide_eq_false h]; exact ih
theorem any_kI (k : Int) (D : Di) : ((kI D).any fun kv => decide (kv.1 = .inl k)) = D.any fun p => decide (p.1 = k) := by
  unfold kI
  rw [List.any_map]
  congr 1
  funext p
  exact inl_dec p.1 k
theorem putK_kI (D : Di) (k v : Int) : putK (kI D) (.inl k) (.int v) = kI (putI D k v) := by
  unfold putK putI
  rw [any_kI]
  split
  · unfold kI
    rw [List.map_map, List.map_map]
    refine List.map_congr_left fun p _ => ?_
    show (if (Sum.inl p.1 : Key) = .inl k then _ else _) = _
    by_cases h : p.1 = k
    · simp [h]
    · simp [h]
  · unfold kI
    rw [List.map_append]
    rfl
theorem dropK_kI (D : Di) (k : Int) : dropK (kI D) (.inl k) = kI (dropI D k) := by
  unfold dropK dropI kI
  rw [List.filter_map]
  congr 1
  refine List.filter_congr fun p _ => ?_
  exact decide_eq_decide.mpr (not_congr ⟨fun z => Sum.inl.inj z, fun z => congrArg Sum.inl z⟩)
theorem kI_len (D : Di) : (kI D).length = D.length := List.length_map _
abbrev dcI (D : Di) : Ce := .any (.dK (kI D))
abbrev dcL (od : Obj) (D : Di) : Ce := .any (.frz od (.dK (kI D)))
/-- the dict at a, locked or not -/
def DIa (S : Sto) (a : Addr) (D : Di) : Prop := (a, dcI D) ∈ S ∨ ∃ od, (a, dcL od D) ∈ S
def rSetD : TSet := fun o i v H Q => ∃ a H', o = .ref a ∧ DPut H a i v H' ∧ Q H'
def rListD : List V → Hp → VK → Prop := fun xs H Q => ∃ (a : Addr) (kvs : List (Key × V)), xs = [.ref a] ∧ Rd H a (.dK kvs) ∧ ∀ p, H p = none → Q (.ref p) (upd H p (.lst (kvs.map fun kv => L2.kV kv.1)))
section
variable {X : Cx}
theorem set_dict (hu : X.A.units + 1 < cLine) : PSet X rSetD := by
  rintro pins s σ H o i v ov iv u Q I ro ri rv ⟨a, H', rfl, g, q⟩
  cases ro
  exact d_setItem hu I g ri rv fun s2 I2 => ⟨H', I2, q⟩
theorem k_listD (calm : X.calm = true := by rfl) : CallR X (.type "list") rListD := call_listD calm
theorem kStar {e : Expr} {es : List Expr} {te : TE} {t : TA} {p : Pos} (K : PySem.W.Frag) (he : PE X e te) (hr : PA X es t) (hK : X.K = K := by rfl) (hs : starEach (.Starred e p :: es) X.env = (true, eval e X.env) :: starEach es X.env := by rfl) : PA X (.Starred e p :: es) (StX.tStar K te t) := hK ▸ StX.pa_star he hr hs
end
section
variable {K : PySem.W.Frag} {F F' H H' : Hp} {S S' : Sto} {Γ : Env} {σ : L2.St} {x y z : Va} {v : V} {Q : QE} {te ta tb td ty : TE} {N : DEnds}
theorem d_star {t : TA} {Q : List Va → Sto → Prop} (h : dE K te Γ S fun x S1 => ∃ xs, Lst S1 x xs ∧ dA K t Γ S1 fun ys S2 => Q (xs ++ ys) S2) : dA K (StX.tStar K te t) Γ S Q := fun σ F H s c Q' p =>
  h σ F H s c _ fun v F1 H1 x S1 e1 c1 o1 ⟨xs, hl, q⟩ => by
    obtain ⟨a, vs, rfl, h1, h2⟩ := hl.at_ c1 o1
    exact ⟨a, vs, rfl, .inr h1, q σ F1 H1 (s.mono e1) c1 _ fun us F2 H2 ys S2 e2 c2 o2 q2 => p _ F2 H2 _ S2 (e1.trans e2) c2 (papp (vas_mono e2 h2) o2) q2⟩
theorem DIa.rd (c : Cf K S F H) {a : Addr} {D : Di} (h : DIa S a D) : Rd H a (.dK (kI D)) := by
  rcases h with h | ⟨od, h⟩
  · exact .inl (c.ok _ h)
  · exact .inr ⟨od, c.ok _ h⟩
theorem DIa.get (c : Cf K S F H) {a : Addr} {D : Di} (h : DIa S a D) (k : Int) : DGet H a (.int k) ((getI D k).map V.int) := .inl ⟨kI D, .inl k, h.rd c, rfl, (valV_kI k D).symm⟩
theorem d_dnewI (q : ∀ p, Q (.r p) ((p, dcI []) :: S)) : dE K tDNewK Γ S Q := fun σ F H s c Q' p a ha => p _ F _ _ _ (.refl F) (c.newO ha _) okR (q a)
theorem d_dget (h : dE K td Γ S fun x S1 => dE K ty Γ S1 fun y S2 => ∃ a D k v, x = .r a ∧ DIa S2 a D ∧ y = .d (.int k) ∧ getI D k = some v ∧ Q (.d (.int v)) S2) : dE K (tDGet td ty) Γ S Q := fun σ F H s c Q' p =>
  h σ F H s c _ fun v F1 H1 x S1 e1 c1 o1 h1 => h1 σ F1 H1 (s.mono e1) c1 _ fun u F2 H2 y S2 e2 c2 o2 ⟨a, D, k, w, ex, g, ey, hg, q⟩ => by
    subst ex ey
    cases o1
    cases o2
    have := g.get c2 k
    rw [hg] at this
    exact ⟨a, .int w, rfl, this, p _ F2 H2 _ S2 (e1.trans e2) c2 (okD (.int w)) q⟩
theorem d_din (h : dE K ty Γ S fun y S1 => dE K td Γ S1 fun x S2 => ∃ a D k, x = .r a ∧ DIa S2 a D ∧ y = .d (.int k) ∧ Q (.d (.bool (getI D k).isSome)) S2) : dE K (tDIn ty td) Γ S Q := fun σ F H s c Q' p =>
  h σ F H s c _ fun v F1 H1 y S1 e1 c1 o1 h1 => h1 σ F1 H1 (s.mono e1) c1 _ fun u F2 H2 x S2 e2 c2 o2 ⟨a, D, k, ex, g, ey, q⟩ => by
    subst ex ey
    cases o1
    cases o2
    refine ⟨a, _, rfl, g.get c2 k, p _ F2 H2 _ S2 (e1.trans e2) c2 (okD (.bl _)) ?_⟩
    rw [Option.isSome_map]
    exact q
theorem d_dnotin (h : dE K ty Γ S fun y S1 => dE K td Γ S1 fun x S2 => ∃ a D k, x = .r a ∧ DIa S2 a D ∧ y = .d (.int k) ∧ Q (.d (.bool (!(getI D k).isSome))) S2) : dE K (tDNotIn ty td) Γ S Q := fun σ F H s c Q' p =>
  h σ F H s c _ fun v F1 H1 y S1 e1 c1 o1 h1 => h1 σ F1 H1 (s.mono e1) c1 _ fun u F2 H2 x S2 e2 c2 o2 ⟨a, D, k, ex, g, ey, q⟩ => by
    subst ex ey
    cases o1
    cases o2
    refine ⟨a, _, rfl, g.get c2 k, p _ F2 H2 _ S2 (e1.trans e2) c2 (okD (.bl _)) ?_⟩
    rw [Option.isSome_map]
    exact q
theorem g_dset {n : Env → Sto → Prop} (h : dE K ta Γ S fun o S1 => dE K tb Γ S1 fun i S2 => ∃ a D k w S', o = .r a ∧ i = .d (.int k) ∧ x = .d (.int w) ∧ Upd S2 a (dcI D) (dcI (putI D k w)) S' ∧ D.length < sizeLine ∧ n Γ S') : dG K (gSub ta tb rSetD) x Γ S n := fun v σ F H s c o Q' p =>
  h σ F H s c _ fun v1 F1 H1 x1 S1 e1 c1 o1 h1 => h1 σ F1 H1 (s.mono e1) c1 _ fun v2 F2 H2 x2 S2 e2 c2 o2 ⟨a, D, k, w, S', ea, ei, ex, u, hz, q⟩ => by
    subst ea ei ex
    cases o1
    cases o2
    cases o
    refine ⟨a, upd H2 a (.dK (kI (putI D k w))), rfl, .inl ⟨kI D, .inl k, c2.ok _ u.mem, rfl, by rw [kI_len]; exact hz, by rw [putK_kI]⟩, ?_⟩
    exact p _ F2 _ _ S' (e1.trans e2) (s.mono (e1.trans e2)) (c2.updO u) q
theorem d_dpop (h : dE K td Γ S fun x S1 => ∃ a D0, x = .r a ∧ (a, dcI D0) ∈ S1 ∧ dE K ty Γ S1 fun y S2 => ∃ D k w S', y = .d (.int k) ∧ getI D k = some w ∧ Upd S2 a (dcI D) (dcI (dropI D k)) S' ∧ Q (.d (.int w)) S') : dE K (tDPop1 td ty) Γ S Q := fun σ F H s c Q' p =>
  h σ F H s c _ fun v F1 H1 x S1 e1 c1 o1 ⟨a, D0, ex, m, h1⟩ => by
    subst ex
    cases o1
    refine ⟨a, rfl, .inl ⟨_, .inl (c1.ok _ m)⟩, h1 σ F1 H1 (s.mono e1) c1 _ fun u F2 H2 y S2 e2 c2 o2 ⟨D, k, w, S', ey, hg, up, q⟩ => ?_⟩
    subst ey
    cases o2
    refine ⟨kI D, .inl k, .int w, c2.ok _ up.mem, rfl, by rw [valV_kI, hg]; rfl, ?_⟩
    rw [dropK_kI]
    exact p _ F2 _ _ S' (e1.trans e2) (c2.updO up) (okD (.int w)) q
theorem r_listD {a : Addr} {D : Di} (g : DIa S a D) (q : ∀ p, Q (.r p) ((p, .lst (vi (D.map (·.1)))) :: S)) : dRL K rListD [.r a] S Q := fun vs F H c o Q' p => by
  obtain _ | ⟨o1, _ | _⟩ := o
  cases o1
  refine ⟨a, kI D, rfl, g.rd c, fun l hl => ?_⟩
  have e : ((kI D).map fun kv => L2.kV kv.1) = (D.map (·.1)).map V.int := by
    unfold kI
    rw [List.map_map, List.map_map]
    rfl
  rw [e]
  exact p _ F _ _ _ (.refl F) (c.newL hl (ints_at _)) okR (q l)
/-- while a dict is locked -/
theorem d_lock {t : TE} {a : Addr} {D : Di} (m : (a, dcI D) ∈ S) (h : ∀ od S1, Upd S a (dcI D) (dcL od D) S1 → dE K t Γ S1 fun x S2 => ∃ S3, Upd S2 a (dcL od D) (dcI D) S3 ∧ Q x S3) : dE K (tLockE t) Γ S Q := fun σ F H s c Q' p => by
  refine ⟨a, _, c.ok _ m, trivial, fun od => ?_⟩
  obtain ⟨S1, u⟩ := upd_ex (c' := dcL od D) m
  exact h od S1 u σ F _ s (c.updO u) _ fun v F2 H2 x S2 e2 c2 o2 ⟨S3, u3, q⟩ => ⟨c2.ok _ u3.mem, p v F2 _ x S3 e2 (c2.updO u3) o2 q⟩
theorem s_lock {t : TS} {a : Addr} {D : Di} (m : (a, dcI D) ∈ S) (h : ∀ od S1, Upd S a (dcI D) (dcL od D) S1 → dS K t { nx := fun Γ' S2 => ∃ S3, Upd S2 a (dcL od D) (dcI D) S3 ∧ N.nx Γ' S3, rt := fun x S2 => ∃ S3, Upd S2 a (dcL od D) (dcI D) S3 ∧ N.rt x S3, bk := fun Γ' S2 => ∃ S3, Upd S2 a (dcL od D) (dcI D) S3 ∧ N.bk Γ' S3, ct := fun Γ' S2 => ∃ S3, Upd S2 a (dcL od D) (dcI D) S3 ∧ N.ct Γ' S3 } Γ S1) : dS K (tLock t) N Γ S := fun σ F H s c D' o => by
  refine ⟨a, _, c.ok _ m, trivial, fun od => ?_⟩
  obtain ⟨S1, u⟩ := upd_ex (c' := dcL od D) m
  refine h od S1 u σ F _ s (c.updO u) _ ⟨?_, ?_, ?_, ?_⟩
  · exact fun σ' F2 H2 Γ2 S2 e2 s2 c2 ⟨S3, u3, q⟩ => ⟨c2.ok _ u3.mem, o.nx σ' F2 _ Γ2 S3 e2 s2 (c2.updO u3) q⟩
  · exact fun w F2 H2 x S2 e2 c2 o2 ⟨S3, u3, q⟩ => ⟨c2.ok _ u3.mem, o.rt w F2 _ x S3 e2 (c2.updO u3) o2 q⟩
  · exact fun σ' F2 H2 Γ2 S2 e2 s2 c2 ⟨S3, u3, q⟩ => ⟨c2.ok _ u3.mem, o.bk σ' F2 _ Γ2 S3 e2 s2 (c2.updO u3) q⟩
  · exact fun σ' F2 H2 Γ2 S2 e2 s2 c2 ⟨S3, u3, q⟩ => ⟨c2.ok _ u3.mem, o.ct σ' F2 _ Γ2 S3 e2 s2 (c2.updO u3) q⟩
theorem i_keys {R} (h : dE K td Γ S fun x S1 => ∃ a od D, x = .r a ∧ (a, dcL od D) ∈ S1 ∧ R D.length (fun S => (a, dcL od D) ∈ S) (fun i y S S' => ∃ q, D[i]? = some q ∧ y = .d (.int q.1) ∧ S' = S) S1) : dI K (iKeys td) Γ S R := fun σ F H s c R' p =>
  h σ F H s c _ fun w F1 H1 x S1 e1 c1 o1 ⟨a, od, D, ex, m, q⟩ => by
    subst ex
    cases o1
    refine ⟨a, od, rfl, .inl ⟨kI D, c1.ok _ m, p _ _ _ _ F1 H1 S1 e1 c1 ?_ q⟩⟩
    intro i F H S e c k
    have hk : H a = some (.frz od (.dK (kI D))) := c.ok _ k
    refine ⟨fun hi => ⟨hk, by rw [kI_len]; exact hi⟩, fun hi => ⟨⟨hk, by rw [kI_len]; exact hi⟩, fun w H' ⟨eh, kk, vv, hz, ew⟩ => ?_⟩⟩
    subst eh ew
    unfold kI at hz
    rw [List.getElem?_map, List.getElem?_eq_getElem hi] at hz
    cases hz
    exact ⟨F, S, _, .refl F, c, okD (.int _), D[i], List.getElem?_eq_getElem hi, rfl, rfl⟩
end
section
variable {K : PySem.W.Frag} {S S' : Sto} {Γ : Env} {x : Va} {Q : QE} {N : DEnds}
theorem g_less {g : TG} {n : Env → Sto → Prop} (h : dG K g x Γ S fun Γ' S' => ∃ S2, S2.Sublist S' ∧ n Γ' S2) : dG K g x Γ S n := fun v σ F H s c o Q' p =>
  h v σ F H s c o Q' fun σ' F' H' Γ' S' e s' c' ⟨S2, l, q⟩ => p σ' F' H' Γ' S2 e s' (c'.sub l) q
theorem s_less {t : TS} (h : dS K t { N with nx := fun Γ' S' => ∃ S2, S2.Sublist S' ∧ N.nx Γ' S2 } Γ S) : dS K t N Γ S := fun σ F H s c D o =>
  h σ F H s c D ⟨fun σ' F' H' Γ' S' e s' c' ⟨S2, l, q⟩ => o.nx σ' F' H' Γ' S2 e s' (c'.sub l) q, o.rt, o.bk, o.ct⟩
theorem d_lockU {t : TE} {a : Addr} {D : Di} {S1 : Obj → Sto} (u : ∀ od, Upd S a (dcI D) (dcL od D) (S1 od)) (h : ∀ od, dE K t Γ (S1 od) fun x S2 => ∃ S3, Upd S2 a (dcL od D) (dcI D) S3 ∧ Q x S3) : dE K (tLockE t) Γ S Q := fun σ F H s c Q' p =>
  ⟨a, _, c.ok _ (u default).mem, trivial, fun od => h od σ F _ s (c.updO (u od)) _ fun v F2 H2 x S2 e2 c2 o2 ⟨S3, u3, q⟩ => ⟨c2.ok _ u3.mem, p v F2 _ x S3 e2 (c2.updO u3) o2 q⟩⟩
theorem s_par3 {i j l : Nat} {t : TA} (h : dA K t Γ S fun xs S1 => ∃ x y z, xs = [x, y, z] ∧ N.nx (((Γ.set i (some x)).set j (some y)).set l (some z)) S1) : dS K (tPar3 i j l t) N Γ S := fun σ F H s c D o =>
  h σ F H s c _ fun vs F1 H1 xs S1 e1 c1 o1 ⟨x, y, z, e, q⟩ => by
    subst e
    obtain _ | ⟨ox, _ | ⟨oy, _ | ⟨oz, _ | _⟩⟩⟩ := o1
    exact ⟨_, _, _, rfl, o.nx _ F1 H1 _ S1 e1 ((((s.mono e1).set i ox).set j oy).set l oz) c1 q⟩
theorem s_lockU {t : TS} {a : Addr} {D : Di} {S1 : Obj → Sto} (u : ∀ od, Upd S a (dcI D) (dcL od D) (S1 od)) (h : ∀ od, dS K t { nx := fun Γ' S2 => ∃ S3, Upd S2 a (dcL od D) (dcI D) S3 ∧ N.nx Γ' S3, rt := fun x S2 => ∃ S3, Upd S2 a (dcL od D) (dcI D) S3 ∧ N.rt x S3, bk := fun Γ' S2 => ∃ S3, Upd S2 a (dcL od D) (dcI D) S3 ∧ N.bk Γ' S3, ct := fun Γ' S2 => ∃ S3, Upd S2 a (dcL od D) (dcI D) S3 ∧ N.ct Γ' S3 } Γ (S1 od)) : dS K (tLock t) N Γ S := fun σ F H s c D' o => by
  refine ⟨a, _, c.ok _ (u default).mem, trivial, fun od => ?_⟩
  refine h od σ F _ s (c.updO (u od)) _ ⟨?_, ?_, ?_, ?_⟩
  · exact fun σ' F2 H2 Γ2 S2 e2 s2 c2 ⟨S3, u3, q⟩ => ⟨c2.ok _ u3.mem, o.nx σ' F2 _ Γ2 S3 e2 s2 (c2.updO u3) q⟩
  · exact fun w F2 H2 x S2 e2 c2 o2 ⟨S3, u3, q⟩ => ⟨c2.ok _ u3.mem, o.rt w F2 _ x S3 e2 (c2.updO u3) o2 q⟩
  · exact fun σ' F2 H2 Γ2 S2 e2 s2 c2 ⟨S3, u3, q⟩ => ⟨c2.ok _ u3.mem, o.bk σ' F2 _ Γ2 S3 e2 s2 (c2.updO u3) q⟩
  · exact fun σ' F2 H2 Γ2 S2 e2 s2 c2 ⟨S3, u3, q⟩ => ⟨c2.ok _ u3.mem, o.ct σ' F2 _ Γ2 S3 e2 s2 (c2.updO u3) q⟩
end
end DL

/-! DR: rules, rows, streams, plainly. -/
namespace DL
open PySem PySem.Spec PyProof.Rows L2
/-! ### runs -/
def Rows (n : Int) (rs : List (List Int)) : Prop := ∀ r ∈ rs, IsP r ∧ (r.length : Int) = n
/-- a rule of n places -/
structure RuleOk (R : List (List Int)) (n : Nat) : Prop where
  h1 : 2 ≤ n
  h2 : n ≤ 12
  hl : R.length = n
  hr : Rows n R
/-- the row behind these moves of its places -/
def movI (row mv : List Int) : List Int := (List.range row.length).foldl (fun acc k => acc.set (mv.getD k 0).toNat (row.getD k 0)) row
theorem mov_len {row mv : List Int} (h : IsP mv) (e : mv.length = row.length) : (movI row mv).length = row.length := by
  have := (fold_put h (fun k => row.getD k 0) row e.symm row.length (by omega)).1
  rw [← e]
  exact this
theorem mov_at {row mv : List Int} (h : IsP mv) (e : mv.length = row.length) {k : Nat} (hk : k < row.length) : (movI row mv)[(mv.getD k 0).toNat]? = row[k]? := by
  have := (fold_put h (fun k => row.getD k 0) row e.symm row.length (by omega)).2 k (by omega)
  rw [show row[k]? = some (row.getD k 0) from by rw [getD_lt hk]; exact List.getElem?_eq_getElem hk]
  exact this
theorem mov_mem {row mv : List Int} (h : IsP mv) (e : mv.length = row.length) (b : Int) : b ∈ movI row mv ↔ b ∈ row := by
  constructor
  · intro hb
    obtain ⟨j, hj, rfl⟩ := List.getElem_of_mem hb
    have hj2 := hj
    rw [mov_len h e] at hj2
    obtain ⟨k, hk, ek⟩ := h.sur (show j < mv.length by omega)
    have := mov_at h e (show k < row.length by omega)
    rw [ek, List.getElem?_eq_getElem hj] at this
    exact List.mem_of_getElem? this.symm
  · intro hb
    obtain ⟨k, hk, rfl⟩ := List.getElem_of_mem hb
    have := mov_at h e hk
    rw [List.getElem?_eq_getElem hk] at this
    exact List.mem_of_getElem? this
theorem mov_perm {row mv : List Int} (h : IsP mv) (e : mv.length = row.length) (nd : row.Nodup) : (movI row mv).Perm row := by
  refine (perm_of_sub nd (fun x hx => (mov_mem h e x).mpr hx) ?_).symm
  rw [mov_len h e]
  exact Nat.le_refl _
/-- the row behind an access -/
def accI (R : List (List Int)) (row : List Int) (b : Int) : List Int := if b ∈ row then movI row (R.getD (row.idxOf b) []) else row.drop 1 ++ [b]
theorem RuleOk.row {R : List (List Int)} {n : Nat} (h : RuleOk R n) {i : Nat} (hi : i < n) : IsP (R.getD i []) ∧ (R.getD i []).length = n := by
  have hm : R.getD i [] ∈ R := by
    rw [List.getD_eq_getElem?_getD, List.getElem?_eq_getElem (by rw [h.hl]; exact hi)]
    exact List.getElem_mem _
  obtain ⟨a, b⟩ := h.hr _ hm
  exact ⟨a, by omega⟩
theorem acc_len {R : List (List Int)} {n : Nat} (h : RuleOk R n) {row : List Int} (hl : row.length = n) (b : Int) : (accI R row b).length = n := by
  unfold accI
  split
  · next hb =>
    have hi := List.idxOf_lt_length_iff.mpr hb
    obtain ⟨h3, h4⟩ := h.row (show row.idxOf b < n by omega)
    rw [mov_len h3 (by omega)]
    exact hl
  · have := h.h1
    rw [List.length_append, List.length_drop]
    simp only [List.length_cons, List.length_nil]
    omega
theorem acc_nodup {R : List (List Int)} {n : Nat} (h : RuleOk R n) {row : List Int} (hl : row.length = n) (nd : row.Nodup) (b : Int) : (accI R row b).Nodup := by
  unfold accI
  split
  · next hb =>
    have hi := List.idxOf_lt_length_iff.mpr hb
    obtain ⟨h3, h4⟩ := h.row (show row.idxOf b < n by omega)
    exact (mov_perm h3 (by omega) nd).nodup_iff.mpr nd
  · next hb =>
    rw [List.nodup_append]
    refine ⟨(List.drop_sublist 1 row).nodup nd, by simp, fun x hx y hy => ?_⟩
    rw [List.mem_singleton.mp hy]
    intro z
    rw [z] at hx
    exact hb (List.mem_of_mem_drop hx)
theorem mem_acc {R : List (List Int)} {n : Nat} (h : RuleOk R n) {row : List Int} (hl : row.length = n) {b x : Int} (hx : x ∈ accI R row b) : x ∈ row ∨ x = b := by
  unfold accI at hx
  split at hx
  · next hb =>
    have hi := List.idxOf_lt_length_iff.mpr hb
    obtain ⟨h3, h4⟩ := h.row (show row.idxOf b < n by omega)
    exact .inl ((mov_mem h3 (by omega) x).mp hx)
  · rcases List.mem_append.mp hx with hx | hx
    · exact .inl (List.mem_of_mem_drop hx)
    · exact .inr (List.mem_singleton.mp hx)
/-- a stream's rows, outcomes, exchanges -/
def rowI (R : List (List Int)) : List Int → List Int → List Int
  | row, [] => row
  | row, b :: s => rowI R (accI R row b) s
def outI (R : List (List Int)) : List Int → List Int → List Bool
  | _, [] => []
  | row, b :: s => decide (b ∈ row) :: outI R (accI R row b) s
def excI (R : List (List Int)) : List Int → List Int → List (Int × Int)
  | _, [] => []
  | row, b :: s => (if b ∈ row then [] else [(row.getD 0 0, b)]) ++ excI R (accI R row b) s
theorem rowI_snoc (R : List (List Int)) (b : Int) : ∀ (s row : List Int), rowI R row (s ++ [b]) = accI R (rowI R row s) b
  | [], _ => rfl
  | c :: s, row => rowI_snoc R b s (accI R row c)
theorem outI_snoc (R : List (List Int)) (b : Int) : ∀ (s row : List Int), outI R row (s ++ [b]) = outI R row s ++ [decide (b ∈ rowI R row s)]
  | [], _ => rfl
  | c :: s, row => by
    show _ :: outI R _ (s ++ [b]) = _
    rw [outI_snoc R b s (accI R row c)]
    rfl
theorem excI_snoc (R : List (List Int)) (b : Int) : ∀ (s row : List Int), excI R row (s ++ [b]) = excI R row s ++ (if b ∈ rowI R row s then [] else [((rowI R row s).getD 0 0, b)])
  | [], row => by
    show (if b ∈ row then [] else [(row.getD 0 0, b)]) ++ [] = [] ++ (if b ∈ row then [] else [(row.getD 0 0, b)])
    rw [List.append_nil, List.nil_append]
  | c :: s, row => by
    show _ ++ excI R _ (s ++ [b]) = _
    rw [excI_snoc R b s (accI R row c), ← List.append_assoc]
    rfl
theorem outI_len (R : List (List Int)) : ∀ (s row : List Int), (outI R row s).length = s.length
  | [], _ => rfl
  | c :: s, row => by
    show (outI R _ s).length + 1 = s.length + 1
    rw [outI_len R s]
theorem excI_len (R : List (List Int)) : ∀ (s row : List Int), (excI R row s).length ≤ s.length
  | [], _ => Nat.le_refl _
  | c :: s, row => by
    have := excI_len R s (accI R row c)
    show (_ ++ excI R _ s).length ≤ s.length + 1
    rw [List.length_append]
    split <;> simp only [List.length_cons, List.length_nil] <;> omega
theorem rowI_ok {R : List (List Int)} {n : Nat} (h : RuleOk R n) : ∀ (s row : List Int), row.length = n → row.Nodup → (rowI R row s).length = n ∧ (rowI R row s).Nodup
  | [], _, a, b => ⟨a, b⟩
  | c :: s, row, a, b => rowI_ok h s (accI R row c) (acc_len h a c) (acc_nodup h a b c)
/-- the lines behind exchanges -/
def linI (lines : List Int) (es : List (Int × Int)) : List Int := es.foldl (fun acc p => acc.set (acc.idxOf p.1) p.2) lines
theorem set_perm {lines : List Int} {a b : Int} (h : a ∈ lines) : (lines.set (lines.idxOf a) b).Perm (b :: lines.erase a) := by
  induction lines with
  | nil => cases h
  | cons c ls ih =>
    by_cases e : c = a
    · subst e
      rw [List.idxOf_cons_self, List.set_cons_zero, List.erase_cons_head]
    · have hm : a ∈ ls := by
        rcases List.mem_cons.mp h with h | h
        · exact absurd h.symm e
        · exact h
      have e2 : (c :: ls).idxOf a = ls.idxOf a + 1 := by
        have hb : (c == a) = false := by simpa using e
        rw [List.idxOf_cons, hb]
        rfl
      rw [e2, List.set_cons_succ, List.erase_cons_tail (by simpa using e)]
      exact ((ih hm).cons c).trans (.swap _ _ _)
theorem acc_miss_perm {R : List (List Int)} {row lines : List Int} {b : Int} (h1 : 1 ≤ row.length) (hb : b ∉ row) (p : lines.Perm row) : (lines.set (lines.idxOf (row.getD 0 0)) b).Perm (accI R row b) := by
  cases row with
  | nil => simp at h1
  | cons c r =>
    have hc : c ∈ lines := p.mem_iff.mpr List.mem_cons_self
    refine (set_perm (b := b) hc).trans ?_
    unfold accI
    rw [if_neg hb]
    show (b :: lines.erase c).Perm (r ++ [b])
    have : (lines.erase c).Perm r := by
      have := p.erase c
      rwa [List.erase_cons_head] at this
    exact (this.cons b).trans (List.perm_append_comm (l₁ := [b]))
def Blk (i : Int) : Prop := 0 ≤ i ∧ i ≤ 10 ^ 9
/-- a row of n places -/
structure RowOk (row : List Int) (n : Nat) : Prop where
  hl : row.length = n
  nd : row.Nodup
  bk : ∀ b ∈ row, Blk b
/-- what a run takes: rule, row, stream -/
structure RunA where
  R : List (List Int)
  n : Nat
  row : List Int
  s : List Int
structure RunA.Ok (a : RunA) : Prop where
  rule : RuleOk a.R a.n
  row : RowOk a.row a.n
  bk : ∀ b ∈ a.s, Blk b
  few : a.s.length ≤ 5000
def RunA.at_ (a : RunA) (xs : List Va) (S : Sto) : Prop := ∃ x y z, xs = [x, y, z] ∧ Sees S x (lli a.R) ∧ Sees S y (li a.row) ∧ Sees S z (li a.s) ∧ a.Ok
/-! ### what a dict of ints holds -/
def keyI (D : Di) : List Int := D.map (·.1)
theorem getI_cons (p : Int × Int) (D : Di) (k : Int) : getI (p :: D) k = if p.1 = k then some p.2 else getI D k := by
  unfold getI
  rw [List.find?_cons]
  by_cases h : p.1 = k
  · rw [decide_eq_true h, if_pos h]; rfl
  · rw [decide_eq_false h, if_neg h]
theorem getI_some {D : Di} {k : Int} : (getI D k).isSome = true ↔ k ∈ keyI D := by
  induction D with
  | nil => simp [getI, keyI]
  | cons p D ih =>
    rw [getI_cons]
    unfold keyI at ih ⊢
    rw [List.map_cons, List.mem_cons]
    by_cases h : p.1 = k
    · rw [if_pos h]; simp [h]
    · rw [if_neg h, ih]
      constructor
      · exact .inr
      · rintro (e | e)
        · exact absurd e.symm h
        · exact e
theorem getI_none {D : Di} {k : Int} (h : k ∉ keyI D) : getI D k = none := by
  cases e : getI D k with
  | none => rfl
  | some v => exact absurd (getI_some.mp (by rw [e]; rfl)) h
theorem any_key {D : Di} {k : Int} : (D.any fun p => decide (p.1 = k)) = decide (k ∈ keyI D) := by
  by_cases h : k ∈ keyI D
  · rw [decide_eq_true h, List.any_eq_true]
    obtain ⟨p, hp, e⟩ := List.mem_map.mp h
    exact ⟨p, hp, decide_eq_true e⟩
  · rw [decide_eq_false h, List.any_eq_false]
    intro p hp
    simp only [decide_eq_true_eq]
    exact fun e => h (List.mem_map.mpr ⟨p, hp, e⟩)
theorem getI_app {D : Di} {p : Int × Int} (h : p.1 ∉ keyI D) (j : Int) : getI (D ++ [p]) j = if j = p.1 then some p.2 else getI D j := by
  induction D with
  | nil =>
    rw [List.nil_append, getI_cons]
    by_cases e : p.1 = j
    · rw [if_pos e, if_pos e.symm]
    · rw [if_neg e, if_neg fun z => e z.symm]
  | cons q D ih =>
    have h1 : ¬ p.1 = q.1 := fun z => h (by unfold keyI; rw [List.map_cons, z]; exact .head _)
    have h2 : p.1 ∉ keyI D := fun z => h (.tail _ z)
    rw [List.cons_append, getI_cons, getI_cons, ih h2]
    by_cases e : q.1 = j
    · rw [if_pos e, if_pos e, if_neg fun z => h1 (by rw [← z, e])]
    · rw [if_neg e, if_neg e]
theorem put_new {D : Di} {k v : Int} (h : k ∉ keyI D) : putI D k v = D ++ [(k, v)] := by
  unfold putI
  rw [any_key, decide_eq_false h, if_neg Bool.false_ne_true]
theorem keyI_put {D : Di} {k v : Int} (h : k ∈ keyI D) : keyI (putI D k v) = keyI D := by
  unfold putI
  rw [any_key, decide_eq_true h, if_pos rfl]
  unfold keyI
  rw [List.map_map]
  refine List.map_congr_left fun p _ => ?_
  show (if p.1 = k then (p.1, v) else p).1 = p.1
  split <;> rfl
theorem getI_put {D : Di} {k v : Int} (j : Int) : getI (putI D k v) j = if j = k then some v else getI D j := by
  by_cases h : k ∈ keyI D
  · unfold putI
    rw [any_key, decide_eq_true h, if_pos rfl]
    induction D with
    | nil => cases h
    | cons p D ih =>
      rw [List.map_cons, getI_cons, getI_cons]
      by_cases e : p.1 = k
      · rw [if_pos e]
        by_cases e2 : p.1 = j
        · rw [if_pos e2, if_pos (by rw [← e2, e])]
        · rw [if_neg e2, if_neg e2, if_neg fun z => e2 (by rw [e, z])]
          by_cases h2 : k ∈ keyI D
          · rw [ih h2, if_neg fun z => e2 (by rw [e, z])]
          · congr 1
            refine (List.map_congr_left fun q hq => ?_).trans (List.map_id' D)
            rw [if_neg fun z => h2 (List.mem_map.mpr ⟨q, hq, z⟩)]
      · rw [if_neg e]
        have h2 : k ∈ keyI D := by
          rcases List.mem_cons.mp (show k ∈ p.1 :: keyI D from h) with z | z
          · exact absurd z.symm e
          · exact z
        rw [ih h2]
        by_cases e2 : p.1 = j
        · rw [if_pos e2, if_pos e2, if_neg fun z => e (by rw [e2, z])]
        · rw [if_neg e2, if_neg e2]
  · rw [put_new h, getI_app h]
theorem keyI_drop (D : Di) (k : Int) : keyI (dropI D k) = (keyI D).filter fun x => decide (x ≠ k) := by
  unfold keyI dropI
  rw [List.filter_map]
  rfl
theorem getI_drop {D : Di} {k : Int} (j : Int) : getI (dropI D k) j = if j = k then none else getI D j := by
  induction D with
  | nil => simp [dropI, getI]
  | cons p D ih =>
    unfold dropI at ih ⊢
    rw [List.filter_cons]
    by_cases e : p.1 = k
    · rw [decide_eq_false (fun z => z e), if_neg Bool.false_ne_true, ih, getI_cons]
      by_cases e2 : j = k
      · rw [if_pos e2, if_pos e2]
      · rw [if_neg e2, if_neg e2, if_neg fun z => e2 (by rw [← z, e])]
    · rw [decide_eq_true (show p.1 ≠ k from e), if_pos rfl, getI_cons, getI_cons, ih]
      by_cases e2 : p.1 = j
      · rw [if_pos e2, if_pos e2, if_neg fun z => e (by rw [e2, z])]
      · rw [if_neg e2, if_neg e2]
/-- D tells for each block its place in the list -/
structure Pl (D : Di) (row : List Int) : Prop where
  perm : (keyI D).Perm row
  val : ∀ b, b ∈ row → getI D b = some ((row.idxOf b : Nat) : Int)
theorem Pl.len {D : Di} {row : List Int} (h : Pl D row) : D.length = row.length := by
  have := h.perm.length_eq
  unfold keyI at this
  rw [List.length_map] at this
  exact this
theorem Pl.has {D : Di} {row : List Int} (h : Pl D row) (b : Int) : (getI D b).isSome = decide (b ∈ row) := by
  rw [Bool.eq_iff_iff, getI_some, h.perm.mem_iff, decide_eq_true_eq]
theorem idxOf_snoc {l : List Int} {x : Int} (h : x ∉ l) : (l ++ [x]).idxOf x = l.length := by
  rw [List.idxOf_append, if_neg h, List.idxOf_cons_self]
  omega
theorem Pl.snoc {D : Di} {l : List Int} (h : Pl D l) {x : Int} (hx : x ∉ l) : Pl (putI D x l.length) (l ++ [x]) := by
  have hk : x ∉ keyI D := fun z => hx (h.perm.mem_iff.mp z)
  refine ⟨?_, fun b hb => ?_⟩
  · rw [put_new hk]
    unfold keyI
    rw [List.map_append]
    exact h.perm.append (.refl _)
  · rw [getI_put]
    by_cases e : b = x
    · subst e
      rw [if_pos rfl, idxOf_snoc hx]
    · have hb2 : b ∈ l := by
        rcases List.mem_append.mp hb with z | z
        · exact z
        · exact absurd (List.mem_singleton.mp z) e
      rw [if_neg e, h.val b hb2, List.idxOf_append, if_pos hb2]
theorem idxOf_at {l : List Int} (nd : l.Nodup) {i : Nat} (hi : i < l.length) : l.idxOf (l.getD i 0) = i := by
  rw [getD_lt hi]
  have h1 := List.idxOf_lt_length_iff.mpr (List.getElem_mem hi)
  have h2 : l[l.idxOf l[i]] = l[i] := List.getElem_idxOf h1
  exact (List.getElem_inj nd).mp h2
/-- a hit: each block's place moves -/
theorem Pl.hit {D D' : Di} {row mv : List Int} (h : Pl D row) (nd : row.Nodup) (hm : IsP mv) (e : mv.length = row.length) (hk : keyI D' = keyI D) (hv : ∀ b, b ∈ row → getI D' b = some (mv.getD (row.idxOf b) 0)) : Pl D' (movI row mv) := by
  have mp := mov_perm hm e nd
  refine ⟨by rw [hk]; exact h.perm.trans mp.symm, fun b hb => ?_⟩
  have hb2 := mp.mem_iff.mp hb
  have hi := List.idxOf_lt_length_iff.mpr hb2
  rw [hv b hb2]
  have h1 := mov_at hm e hi
  have hr := hm.at (show row.idxOf b < mv.length by omega)
  have h2 : row[row.idxOf b]? = some b := by rw [List.getElem?_eq_getElem hi, List.getElem_idxOf]
  rw [h2] at h1
  have ml := mov_len hm e
  have hlt : (mv.getD (row.idxOf b) 0).toNat < (movI row mv).length := by omega
  rw [List.getElem?_eq_getElem hlt] at h1
  have h3 : (movI row mv).getD (mv.getD (row.idxOf b) 0).toNat 0 = b := by rw [getD_lt hlt]; exact Option.some.inj h1
  have h4 := idxOf_at (mp.nodup_iff.mpr nd) hlt
  rw [h3] at h4
  rw [h4]
  congr 1
  omega
/-- a miss: the first one is gone, the others move by one, the new one comes -/
theorem Pl.miss {D D2 : Di} {c b : Int} {r : List Int} (h : Pl D (c :: r)) (nd : (c :: r).Nodup) (hb : b ∉ c :: r) (hk : keyI D2 = keyI (dropI D c)) (hv : ∀ x, x ∈ r → getI D2 x = some (((c :: r).idxOf x : Nat) - 1 : Int)) : Pl (putI D2 b ((c :: r).length - 1 : Nat)) (r ++ [b]) := by
  have nd2 := List.nodup_cons.mp nd
  have kp : (keyI D2).Perm r := by
    rw [hk, keyI_drop]
    refine (h.perm.filter _).trans ?_
    rw [List.filter_cons, decide_eq_false (fun z => z rfl), if_neg Bool.false_ne_true, List.filter_eq_self.mpr fun x hx => decide_eq_true (show x ≠ c from fun z => nd2.1 (z ▸ hx))]
  have base : Pl D2 r := ⟨kp, fun x hx => by
    rw [hv x hx]
    have : (c :: r).idxOf x = r.idxOf x + 1 := by
      have hb : (c == x) = false := beq_eq_false_iff_ne.mpr fun z => nd2.1 (z ▸ hx)
      rw [List.idxOf_cons, hb]
      rfl
    rw [this]
    congr 1
    omega⟩
  have := base.snoc (x := b) fun z => hb (.tail _ z)
  rw [show (c :: r).length - 1 = r.length from rfl]
  exact this
/-- the lines at a miss -/
theorem Pl.swap {H : Di} {ls : List Int} {c b : Int} (h : Pl H ls) (nd : ls.Nodup) (hc : c ∈ ls) (hb : b ∉ ls) : Pl (dropI (putI H b (ls.idxOf c : Nat)) c) (ls.set (ls.idxOf c) b) := by
  have hk : b ∉ keyI H := fun z => hb (h.perm.mem_iff.mp z)
  have hi := List.idxOf_lt_length_iff.mpr hc
  have hne : b ≠ c := fun z => hb (z ▸ hc)
  have sp := set_perm (b := b) hc
  refine ⟨?_, fun x hx => ?_⟩
  · rw [keyI_drop, put_new hk]
    unfold keyI
    rw [List.map_append, List.filter_append]
    refine .trans ?_ sp.symm
    show (List.filter _ _ ++ List.filter _ [b]).Perm _
    rw [List.filter_cons, decide_eq_true hne, if_pos rfl, List.filter_nil]
    refine (List.perm_append_comm (l₂ := [b])).trans (.cons b ?_)
    refine (h.perm.filter _).trans ?_
    rw [List.Nodup.erase_eq_filter nd]
    refine List.Perm.of_eq (List.filter_congr fun y _ => ?_)
    by_cases e : y = c
    · subst e; simp
    · rw [decide_eq_true e]; simp [e]
  · rw [getI_drop, getI_put]
    have hx2 := sp.mem_iff.mp hx
    have nds : (ls.set (ls.idxOf c) b).Nodup := sp.nodup_iff.mpr (List.nodup_cons.mpr ⟨fun z => hb (List.mem_of_mem_erase z), nd.erase c⟩)
    have hl : (ls.set (ls.idxOf c) b).length = ls.length := List.length_set
    rcases List.mem_cons.mp hx2 with e | e
    · subst e
      rw [if_neg hne, if_pos rfl]
      congr 1
      have := idxOf_at nds (show ls.idxOf c < (ls.set (ls.idxOf c) x).length by omega)
      rw [getD_lt (by omega), List.getElem_set_self] at this
      rw [this]
    · have hxl := List.mem_of_mem_erase e
      have hxc : x ≠ c := fun z => by
        rw [z, List.Nodup.erase_eq_filter nd] at e
        simp at e
      have hxb : x ≠ b := fun z => hb (z ▸ hxl)
      rw [if_neg hxc, if_neg hxb, h.val x hxl]
      congr 2
      have hj := List.idxOf_lt_length_iff.mpr hxl
      have hjc : ls.idxOf c ≠ ls.idxOf x := fun z => hxc (by
        have h1 : ls[ls.idxOf c] = c := List.getElem_idxOf hi
        have h2 : ls[ls.idxOf x] = x := List.getElem_idxOf hj
        rw [← h1, ← h2]
        congr 1
        exact z.symm)
      have := idxOf_at nds (show ls.idxOf x < (ls.set (ls.idxOf c) b).length by omega)
      rw [getD_lt (by omega), List.getElem_set_ne hjc, List.getElem_idxOf] at this
      exact this.symm
theorem liLst {S : Sto} {x : Va} {t : List Int} (h : Sees S x (li t)) : Lst S x (vi t) := by
  rw [vi_map]
  exact h.lflat (by rw [List.all_map]; exact List.all_eq_true.mpr fun _ _ => rfl)
theorem viGet {t : List Int} {i : Nat} (hi : i < t.length) {z : Va} (h : (vi t)[i]? = some z) : z = .d (.int (t.getD i 0)) := by
  unfold vi at h
  rw [List.getElem?_map, List.getElem?_eq_getElem hi] at h
  rw [getD_lt hi]
  exact (Option.some.inj h).symm
theorem take_fresh {row : List Int} (nd : row.Nodup) {i : Nat} (hi : i < row.length) : row.getD i 0 ∉ row.take i := fun h => by
  rw [getD_lt hi] at h
  obtain ⟨j, hj, e⟩ := List.getElem_of_mem h
  rw [List.length_take] at hj
  rw [List.getElem_take] at e
  have := (List.getElem_inj nd).mp e
  omega
def vb (bs : List Bool) : List Va := bs.map fun b => .d (.bool b)
theorem vb_len (bs : List Bool) : (vb bs).length = bs.length := List.length_map _
theorem vb_snoc (bs : List Bool) (b : Bool) : vb bs ++ [.d (.bool b)] = vb (bs ++ [b]) := by
  unfold vb
  rw [List.map_append]
  rfl
theorem take_snoc {s : List Int} {i : Nat} (hi : i < s.length) : s.take (i + 1) = s.take i ++ [s.getD i 0] := by
  rw [List.take_add_one, List.getElem?_eq_getElem hi, getD_lt hi]
  rfl
theorem lin_perm {R : List (List Int)} {n : Nat} (h : RuleOk R n) : ∀ (s row lines : List Int), row.length = n → row.Nodup → lines.Perm row → (linI lines (excI R row s)).Perm (rowI R row s) ∧ ∀ i, i < (excI R row s).length → ((excI R row s).getD i (0, 0)).1 ∈ linI lines ((excI R row s).take i)
  | [], row, lines, _, _, p => ⟨p, fun i hi => absurd hi (Nat.not_lt_zero _)⟩
  | b :: s, row, lines, hl, nd, p => by
    have al := acc_len h hl b
    have an := acc_nodup h hl nd b
    have h1 := h.h1
    have ex : excI R row (b :: s) = (if b ∈ row then [] else [(row.getD 0 0, b)]) ++ excI R (accI R row b) s := rfl
    rw [ex, show rowI R row (b :: s) = rowI R (accI R row b) s from rfl]
    by_cases hb : b ∈ row
    · rw [if_pos hb, List.nil_append]
      refine lin_perm h s (accI R row b) lines al an (p.trans ?_)
      unfold accI
      rw [if_pos hb]
      have hi := List.idxOf_lt_length_iff.mpr hb
      obtain ⟨h3, h4⟩ := h.row (show row.idxOf b < n by omega)
      exact (mov_perm h3 (by omega) nd).symm
    · rw [if_neg hb]
      have p2 := acc_miss_perm (R := R) (show 1 ≤ row.length by omega) hb p
      obtain ⟨q1, q2⟩ := lin_perm h s (accI R row b) _ al an p2
      refine ⟨q1, fun i hi => ?_⟩
      cases i with
      | zero =>
        show row.getD 0 0 ∈ lines
        refine p.mem_iff.mpr ?_
        rw [getD_lt (show 0 < row.length by omega)]
        exact List.getElem_mem _
      | succ i => exact q2 i (by simpa using hi)
/-! ### list.count of a bool -/
def eqkB (k : Bool) (v : Value) : Bool := match v with
  | .bool n => n == k
  | _ => false
theorem vals_bl : ∀ {bs : List Bool} {us : List Value}, Vals (bs.map V.bl) us → us = bs.map Value.bool
  | [], us, r => by
    rw [List.map_nil] at r
    cases r
    rfl
  | b :: bs, us, r => by
    rw [List.map_cons] at r
    cases r with
    | cons h t =>
      have e : _ = Value.bool b := h
      rw [e, vals_bl t]
      rfl
theorem eqkB_count {k : Bool} : ∀ bs : List Bool, (bs.map Value.bool).countP (eqkB k) = bs.count k
  | [] => rfl
  | b :: bs => by
    have ih := eqkB_count (k := k) bs
    rw [List.map_cons, List.countP_cons, List.count_cons, ih] <;> rfl
def rCntB (K : PySem.W.Frag) : V → List V → Hp → VK → Prop := fun x xs H Q => ∃ (p : Addr) (bs : List Bool) (k : Bool), x = .ref p ∧ xs = [.bl k] ∧ SqL K H p (bs.map V.bl) ∧ Q (.int (bs.count k : Nat)) H
section
variable {X : Cx}
theorem mt_countB : MtR X "list.count" (rCntB X.K) := by
  intro pins s σ H x xs v us Q I rx rxs h
  obtain ⟨p, bs, k, rfl, rfl, hs, q⟩ := h
  cases rx
  obtain ⟨u, rfl, ru⟩ := rxs.one
  have eu : u = Value.bool k := ru
  subst eu
  obtain ⟨its, rv, ⟨⟨cls, dd, data, sl⟩, n, ho, hc, hdn, hd⟩, hlen⟩ := I.list hs
  simp only at hc hd
  subst hc hd
  have hi := vals_bl rv
  refine call_meets PySem.F.slot_list_count ⟨_, ho, rfl⟩ PySem.F.entry_list_count (PySem.F.args_list_count_2 _ _)
    (SeqAt.list_countAt p its.toArray n dd sl (.bool k) (eqkB k)) ⟨ho, fun y hy => ?_, ?_⟩
  · have hy2 : y ∈ its := by simpa using hy
    rw [hi] at hy2
    obtain ⟨b, hb, rfl⟩ := List.mem_map.mp hy2
    exact SeqAt.EqAt.bool_bool b k
  have ec : its.toArray.toList.countP (eqkB k) = bs.count k := by rw [hi]; exact eqkB_count bs
  refine ⟨.int (bs.count k : Nat), H, I.tok _, ⟨s.toks, ?_⟩, q⟩
  show Value.int ((its.toArray.toList.countP (eqkB k) : Nat) : Int) s.toks = Value.int ((bs.count k : Nat) : Int) s.toks
  rw [ec]
theorem kCntB (K : PySem.W.Frag) (h : X.K = K := by rfl) : MtR X "list.count" (rCntB K) := h ▸ mt_countB
end
section
variable {K : PySem.W.Frag} {F F' H H' : Hp} {S S' : Sto} {x y z : Va} {Q : QE}
theorem bls_of : ∀ {bs : List Bool} {vs : List V}, AtAll K H vs (bs.map PyData.bool) → vs = bs.map V.bl
  | [], _, .nil => rfl
  | b :: bs, _, .cons h t => by
    cases h
    rw [bls_of t]
    rfl
theorem m_countB {bs : List Bool} {k : Bool} (hx : Sees S x (.list (bs.map PyData.bool))) (q : Q (.d (.int (bs.count k : Nat))) S) : dRM K (rCntB K) x [.d (.bool k)] S Q := fun v vs F H c o1 o2 Q' p => by
  obtain _ | ⟨oy, _ | _⟩ := o2
  cases oy
  have a1 := hx.at_ c o1
  cases a1 with
  | lst h t =>
    have e := bls_of t
    subst e
    exact ⟨_, bs, k, rfl, rfl, h, p _ F H _ S (.refl F) c (okD (.int _)) q⟩
end
end DL

/-! DS: sets of ints as cells. -/
namespace DL
open PySem PySem.Spec PyProof.Rows L2
/-! ### math.lcm -/
def rLcm : List V → Hp → VK → Prop := fun vs H Q => ∃ a b : Int, vs = [.int a, .int b] ∧ (0 ≤ a ∧ a < 2 ^ 60) ∧ (0 ≤ b ∧ b < 2 ^ 60) ∧ Q (.int ((Nat.lcm a.natAbs b.natAbs : Nat) : Int)) H
theorem cr_lcm {X : Cx} : CallR X (.builtin "math.lcm") rLcm := by
  intro pins s σ H vs us Q I r h
  obtain ⟨a, b, rfl, ⟨ha, ha2⟩, ⟨hb, hb2⟩, q⟩ := h
  obtain ⟨t, u, rfl⟩ := Vals.int2 r
  have h1 : Nat.lcm a.natAbs b.natAbs < 2 ^ 120 := by
    have e1 : Nat.lcm a.natAbs b.natAbs ≤ a.natAbs * b.natAbs := Nat.div_le_self _ _
    have e2 : a.natAbs < 2 ^ 60 := by omega
    have e3 : b.natAbs < 2 ^ 60 := by omega
    have e4 : a.natAbs * b.natAbs < 2 ^ 60 * 2 ^ 60 := Nat.mul_lt_mul'' e2 e3
    rw [show 2 ^ 60 * 2 ^ 60 = 2 ^ 120 by decide] at e4
    exact Nat.lt_of_le_of_lt e1 e4
  refine PySem.W.mg_lcm (by omega) (by omega) ?_ ?_
  · rw [Nat.lcm_one_left, Int.natAbs_natCast]
    exact Nat.lt_of_le_of_lt (PySem.W.mg_log (k := 119) h1) (by decide)
  · rw [Nat.lcm_one_left]
    exact ⟨.int _, H, I.tok _, ⟨_, rfl⟩, q⟩
section
variable {X : Cx} {o e : Expr} {es : List Expr} {to : TE} {t : TA} {apos cpos : Pos}
theorem kSet0 (w : World) (h : X.w = w := by rfl) : CallR X (.type "set") (rSet0 w) := h ▸ cr_set0
theorem kSIn (w : World) (h : X.w = w := by rfl) : OpR X (compareOp .In) (rSIn w) := h ▸ or_sin
theorem kSNotIn (w : World) (h : X.w = w := by rfl) : OpR X (compareOp .NotIn) (rSNotIn w) := h ▸ or_snotin
theorem kSAdd (w : World) (ho : PE X o to) (ha : PA X (e :: es) t) (h : X.w = w := by rfl)
    (hbase : attributeBase o "add" X.env (eval o X.env) = eval o X.env := by rfl)
    (hfew : ((backTo cpos (starEach (e :: es) X.env)).all (fun x => !x.1) && (backToKw cpos (keywordEach [] X.env)).all (fun x => x.1.isSome)
      && decide ((e :: es).length + ([] : List Keyword).length + (if ([] : List Keyword).isEmpty then 0 else 1) < 30)) = true := by rfl)
    (hline : (apos.endLine == cpos.line) = true := by rfl) (hs : starEach (e :: es) X.env = (false, eval e X.env) :: starEach es X.env := by rfl) (hplain : (backTo cpos (starEach es X.env)).any (·.1) = false := by rfl) :
    PE X (.Call (.Attribute o "add" apos) (e :: es) [] cpos) (tSAdd w to t) := h ▸ pe_sadd ho ha hbase hfew hline hs hplain
end
section
variable {K : PySem.W.Frag} {F F' H H' : Hp} {S S' : Sto} {Γ : Env} {x y z : Va} {v : V} {Q : QE} {to : TE} {t : TA} {w : World}
theorem r_lcm {a b : Int} (ha : 0 ≤ a ∧ a < 2 ^ 60) (hb : 0 ≤ b ∧ b < 2 ^ 60) (q : Q (.d (.int ((Nat.lcm a.natAbs b.natAbs : Nat) : Int))) S) : dRL K rLcm [.d (.int a), .d (.int b)] S Q := fun vs F H c o Q' p => by
  obtain _ | ⟨o1, _ | ⟨o2, _ | _⟩⟩ := o
  cases o1; cases o2
  exact ⟨a, b, rfl, ha, hb, p _ F H _ S (.refl F) c (okD (.int _)) q⟩
/-- a set of ints as a cell -/
abbrev stI (w : World) (a : Addr) (T : Int → Bool) (n : Nat) : Ce := .any (SetO w a T n)
theorem r_set0 (q : ∀ p, Q (.r p) ((p, stI w p (fun _ => false) 0) :: S)) : dRL K (rSet0 w) [] S Q := fun vs F H c o Q' p => by
  cases o
  exact ⟨rfl, fun a ha => p _ F _ _ _ (.refl F) (c.newO ha _) okR (q a)⟩
theorem r_sin {a : Addr} {T : Int → Bool} {n : Nat} {k : Int} (m : (a, stI w a T n) ∈ S) (q : Q (.d (.bool (T k))) S) : dR2 K (rSIn w) (.d (.int k)) (.r a) S Q := fun v u F H c o1 o2 Q' p => by
  cases o1; cases o2
  exact ⟨k, a, T, n, rfl, rfl, c.ok _ m, p _ F H _ S (.refl F) c (okD (.bl _)) q⟩
theorem r_snotin {a : Addr} {T : Int → Bool} {n : Nat} {k : Int} (m : (a, stI w a T n) ∈ S) (q : Q (.d (.bool (!T k))) S) : dR2 K (rSNotIn w) (.d (.int k)) (.r a) S Q := fun v u F H c o1 o2 Q' p => by
  cases o1; cases o2
  exact ⟨k, a, T, n, rfl, rfl, c.ok _ m, p _ F H _ S (.refl F) c (okD (.bl _)) q⟩
theorem d_sadd (h : dE K to Γ S fun x S1 => ∃ a T0 n0, x = .r a ∧ (a, stI w a T0 n0) ∈ S1 ∧ dA K t Γ S1 fun xs S2 => ∃ k T n S3, xs = [.d (.int k)] ∧ n + 1 < scanBound ∧ Upd S2 a (stI w a T n) (stI w a (fun j => T j || decide (j = k)) (if T k = true then n else n + 1)) S3 ∧ Q (.d .none) S3) : dE K (tSAdd w to t) Γ S Q := fun σ F H s c Q' p =>
  h σ F H s c _ fun v F1 H1 x S1 e1 c1 o1 ⟨a, T0, n0, ex, m, h1⟩ => by
    subst ex
    cases o1
    refine ⟨⟨a, T0, n0, rfl, c1.ok _ m⟩, h1 σ F1 H1 (s.mono e1) c1 _ fun vs F2 H2 xs S2 e2 c2 o2 ⟨k, T, n, S3, ex, hn, up, q⟩ => ?_⟩
    subst ex
    obtain _ | ⟨oy, _ | _⟩ := o2
    cases oy
    exact ⟨a, k, T, n, rfl, rfl, c2.ok _ up.mem, hn, p _ F2 _ _ S3 (e1.trans e2) (c2.updO up) (okD .non) q⟩
end
end DL

/-! DW: members of lists and tuples of ints, equal lists, list.remove. -/
namespace DL
open PySem PySem.Spec PyProof.Rows L2

theorem d_tupRg {K : PySem.W.Frag} {Γ : Env} {S : Sto} {Q : QE} {t : L2.St → Hp → (Int → Int → Hp → Prop) → Prop} (h : dRg K t Γ S fun a b S1 => RgOk a b ∧ ∀ p, Q (.r p) ((p, .tup (rgA a b)) :: S1)) : dE K (tTupRg t) Γ S Q := fun σ F H s c Q' p =>
  h σ F H s c _ fun a b F1 H1 S1 e1 c1 ⟨hr, q⟩ => ⟨hr, fun l hl => p _ F1 _ _ _ e1 (c1.newT hl (rgA_p a b)) okR (q l)⟩
/-- a store's order doesn't matter -/
theorem s_perm {K : PySem.W.Frag} {Γ : Env} {S S' : Sto} {N : DEnds} {ts : TS} (h : S'.Perm S) (q : dS K ts N Γ S') : dS K ts N Γ S := fun σ F H s c D o => q σ F H s (c.perm h.symm) D o
/-- where two ways meet -/
theorem s_join {K : PySem.W.Frag} {Γ : Env} {S : Sto} {N : DEnds} {ts : TS} (P : Env → Sto → Prop) (h : dS K ts { nx := P, rt := N.rt, bk := N.bk, ct := N.ct } Γ S) (f : ∀ Γ' S', P Γ' S' → N.nx Γ' S') : dS K ts N Γ S := fun σ F H s c D o =>
  h σ F H s c D ⟨fun σ' F' H' Γ' S' e sl c' hP => o.nx σ' F' H' Γ' S' e sl c' (f _ _ hP), o.rt, o.bk, o.ct⟩
theorem d_post {K : PySem.W.Frag} {Γ : Env} {S : Sto} {Q : QE} {te : TE} (P : QE) (h : dE K te Γ S P) (f : ∀ x S', P x S' → Q x S') : dE K te Γ S Q := fun σ F H s c Q' p =>
  h σ F H s c Q' fun v F1 H1 x S1 e1 c1 o1 q => p v F1 H1 x S1 e1 c1 o1 (f _ _ q)
theorem any_ints (row : List Int) (b : Int) : ((row.map PyData.int).any fun z => PyData.eqv z (.int b)) = decide (b ∈ row) := by
  rw [List.any_map]
  induction row with
  | nil => rfl
  | cons c r ih =>
    rw [List.any_cons, ih]
    show (PyData.eqv (.int c) (.int b) || _) = _
    rw [eqv_int]
    by_cases h : c = b
    · subst h; simp
    · have h2 : ¬ b = c := fun z => h z.symm
      simp [h, h2]
section
variable {K : PySem.W.Frag} {S : Sto} {Q : QE} {x y : Va} {F F' H H' : Hp}
theorem r_inI {row : List Int} {b : Int} (hx : Lst S x (vi row)) (q : Q (.d (.bool (decide (b ∈ row)))) S) : dR2 K (rIn K false) (.d (.int b)) x S Q := by
  refine r_in (ds := row.map .int) (.d _) (.inl (sees_vi hx)) rfl (by rw [List.all_map]; exact List.all_eq_true.mpr fun _ _ => rfl) ?_
  rw [any_ints, if_neg Bool.false_ne_true]
  exact q
theorem r_inTI {row : List Int} {b : Int} (hx : Sees S x (.tuple (row.map .int))) (q : Q (.d (.bool (decide (b ∈ row)))) S) : dR2 K (rIn K false) (.d (.int b)) x S Q := by
  refine r_in (ds := row.map .int) (.d _) (.inr hx) rfl (by rw [List.all_map]; exact List.all_eq_true.mpr fun _ _ => rfl) ?_
  rw [any_ints, if_neg Bool.false_ne_true]
  exact q
theorem r_notInI {row : List Int} {b : Int} (hx : Lst S x (vi row)) (q : Q (.d (.bool (!decide (b ∈ row)))) S) : dR2 K (rIn K true) (.d (.int b)) x S Q := by
  refine r_in (ds := row.map .int) (.d _) (.inl (sees_vi hx)) rfl (by rw [List.all_map]; exact List.all_eq_true.mpr fun _ _ => rfl) ?_
  rw [any_ints, if_pos rfl]
  exact q
theorem tys_lst {xs : List Va} (h : Lst S x xs) : Tys S "list" x := by
  cases h with
  | d ds => rfl
  | r m => exact ⟨rfl, _, m⟩
theorem r_neT {z : Str} (h : PyData.strOk z = true) (q : Q (.d (.bool false)) S) : dR2 K (rNeD K) (.d (.str z)) (.d (.str z)) S Q := by
  have c : (PyData.str z).canLay0 = true := by rw [PyData.canLay0]; exact h
  have s : SeqAt.shaped (.str z) = true := shaped_of (k := 1) ⟨c, by simp [PyData.depth]⟩ (by decide)
  refine r_neD (.d _) (.d _) s s ?_
  rw [SeqAt.eqv_refl _ c]
  exact q
theorem r_neI {ns : List Int} (hx : Lst S x (vi ns)) (hy : Lst S y (vi ns)) (q : Q (.d (.bool false)) S) : dR2 K (rNeD K) x y S Q := by
  refine r_neD (sees_vi hx) (sees_vi hy) (shaped_li ns) (shaped_li ns) ?_
  rw [SeqAt.eqv_refl _ (DL.sh_li ns).1]
  exact q
theorem r_eqI {ns : List Int} (hx : Lst S x (vi ns)) (hy : Lst S y (vi ns)) (q : Q (.d (.bool true)) S) : dR2 K (rEqD K) x y S Q := by
  refine r_eqD (sees_vi hx) (sees_vi hy) (shaped_li ns) (shaped_li ns) ?_
  rw [SeqAt.eqv_refl _ (DL.sh_li ns).1]
  exact q
def isNonD : PyData → Bool
  | .none => true
  | _ => false
theorem r_isN {d : PyData} (hx : Sees S x d) (q : Q (.d (.bool (isNonD d))) S) : dR2 K (fun x y H Q => y = V.non ∧ Q (V.bl (decide (x = V.non))) H) x (.d .none) S Q := fun v u F H c o1 o2 Q' p => by
  cases o2
  refine ⟨rfl, ?_⟩
  have e : decide (v = V.non) = isNonD d := by
    have o1 := hx.at_ c o1
    cases o1 <;> simp [isNonD]
  rw [e]
  exact p _ F H _ S (.refl F) c (okD (.bl _)) q
theorem r_notN {d : PyData} (hx : Sees S x d) (q : Q (.d (.bool (!isNonD d))) S) : dR2 K (fun x y H Q => y = V.non ∧ Q (V.bl (!decide (x = V.non))) H) x (.d .none) S Q := fun v u F H c o1 o2 Q' p => by
  cases o2
  refine ⟨rfl, ?_⟩
  have e : decide (v = V.non) = isNonD d := by
    have o1 := hx.at_ c o1
    cases o1 <;> simp [isNonD]
  rw [e]
  exact p _ F H _ S (.refl F) c (okD (.bl _)) q
theorem r_notB {a b : Bool} (q : Q (.d (.bool (!decide (a = b)))) S) : dR2 K rNotB (.d (.bool a)) (.d (.bool b)) S Q := fun v u F H c o1 o2 Q' p => by
  cases o1; cases o2
  exact ⟨a, b, rfl, rfl, p _ F H _ S (.refl F) c (okD (.bl _)) q⟩
theorem perm_nice {f : List Int} (hf : IsP f) (l2 : f.length ≤ 12) : Nice (li f) := .inl (okT_l (k := 2) (by rw [List.length_map]; omega) fun d hd => by
  obtain ⟨n, hn, rfl⟩ := List.mem_map.mp hd
  have := hf.mem hn
  exact okT_i (by omega))
theorem vi_vals : ∀ {ns : List Int} {vs : List V}, Paired (VaOk K F) (vi ns) vs → vs = ns.map V.int
  | [], _, .nil => rfl
  | n :: ns, _, .cons h t => by
    cases h
    rw [vi_vals t]
    rfl
theorem vi_ok : ∀ ns : List Int, Paired (VaOk K F) (vi ns) (ns.map V.int)
  | [] => .nil
  | n :: ns => .cons (okD (.int n)) (vi_ok ns)
theorem not_idx {k : Int} : ∀ (ns : List Int) {m : Nat}, m < ns.idxOf k → ns[m]? ≠ some k
  | [], m, h => by simp at h
  | x :: ns, m, h => by
    rw [List.idxOf_cons] at h
    by_cases e : x = k
    · subst e
      simp at h
    · rw [beq_false_of_ne e] at h
      cases m with
      | zero => exact fun z => e (Option.some.inj z)
      | succ m => exact not_idx ns (by simpa using h)
theorem cut_from' {xs : List Va} (n : Nat) : cutA xs (some (n : Int)) none = xs.drop n := by
  unfold cutA
  rw [HT.sIx_none, HT.sIx_nat]
  by_cases h : n ≤ xs.length
  · rw [Nat.min_eq_left h, List.take_of_length_le (by rw [List.length_drop]; exact Nat.le_refl _)]
  · rw [Nat.min_eq_right (by omega), List.drop_of_length_le (Nat.le_refl _), List.drop_of_length_le (show xs.length ≤ n by omega), List.take_nil]
theorem filt_snoc {α : Type} (f : α → Bool) (l : List α) {i : Nat} (h : i < l.length) : ((l.take (i + 1)).filter f) = (l.take i).filter f ++ (if f l[i] then [l[i]] else []) := by
  rw [List.take_add_one, List.getElem?_eq_getElem h, List.filter_append]
  refine congrArg _ ?_
  show [l[i]].filter f = _
  cases e : f l[i] <;> simp [e]
theorem m_remove {a : Addr} {ns : List Int} {k : Int} (h : ∃ S', Upd S a (.lst (vi ns)) (.lst (vi (ns.erase k))) S' ∧ k ∈ ns ∧ Q (.d .none) S') : dRM K rRemI (.r a) [.d (.int k)] S Q := fun v vs F H c o1 o2 Q' p => by
  obtain ⟨S', u, hk, q⟩ := h
  cases o1
  obtain _ | ⟨oy, _ | _⟩ := o2
  cases oy
  obtain ⟨vs, e, r⟩ := c.ok _ u.mem
  have e2 := vi_vals r
  subst e2
  have hi := List.idxOf_lt_length_iff.mpr hk
  refine ⟨a, ns, k, ns.idxOf k, rfl, rfl, e, ?_, fun m hm hmk => ?_, p _ F _ _ _ (.refl F) (c.updL u ?_) (okD .non) q⟩
  · rw [List.getElem?_eq_getElem hi, List.getElem_idxOf]
  · exact not_idx ns hm hmk
  · rw [List.erase_eq_eraseIdx_of_idxOf rfl]
    exact vi_ok _
end
/-! ### written data with names in it -/
theorem CeOk.off {K : PySem.W.Frag} {F H : Hp} {q a : Addr} {o : HO} {c : Ce} (hq : q ≠ a) (h : CeOk K F H q c) : CeOk K F (upd H a o) q c := by
  cases c with
  | lst xs =>
    obtain ⟨vs, e1, h1⟩ := h
    exact ⟨vs, by rw [upd_ne hq]; exact e1, h1⟩
  | tup xs =>
    obtain ⟨vs, e1, h1⟩ := h
    exact ⟨vs, by rw [upd_ne hq]; exact e1, h1⟩
  | any u =>
    show upd H a o q = some u
    rw [upd_ne hq]
    exact h
  | prd φ =>
    obtain ⟨ys, ws, f, e, h1⟩ := h
    exact ⟨ys, ws, f, by rw [upd_ne hq]; exact e, h1⟩
  | dtv D =>
    obtain ⟨ws, e, h1⟩ := h
    exact ⟨ws, by rw [upd_ne hq]; exact e, h1⟩
theorem Cf.newAny {K : PySem.W.Frag} {S : Sto} {F H : Hp} (c : Cf K S F H) {p : Addr} (hp : H p = none) {o : HO} : Cf K ((p, .any o) :: S) F (upd H p o) := by
  obtain ⟨h1, h2⟩ := c.fresh hp
  refine ⟨c.ex.trans (same_new hp), List.nodup_cons.mpr ⟨h1, c.nd⟩, fun q hq => ?_, fun q hq => ?_⟩
  · rcases List.mem_cons.mp hq with rfl | hq
    · exact h2
    · exact c.fr q hq
  · rcases List.mem_cons.mp hq with rfl | hq
    · exact upd_same
    · exact (c.ok q hq).grow (same_new hp)
def LitG (K : PySem.W.Frag) (Γ : Env) (te : TE) (d : PyData) : Prop := ∀ S Q, Q (.d d) S → dE K te Γ S Q
def LitGA (K : PySem.W.Frag) (Γ : Env) (ta : TA) (ds : List PyData) : Prop := ∀ S Q, Q (ds.map Va.d) S → dA K ta Γ S Q
section
variable {K : PySem.W.Frag} {Γ : Env} {S : Sto} {Q : QE} {te tf : TE} {ta : TA} {d : PyData} {ds es : List PyData}
theorem d_lg (h : LitG K Γ te d) (q : Q (.d d) S) : dE K te Γ S Q := h S Q q
theorem lg_of (h : LitE K te d) : LitG K Γ te d := fun S Q q => h Γ S Q q
theorem lg_int {i : Int} : LitG K Γ (tC (.int i)) (.int i) := fun _ _ q => d_int q
theorem lg_bl {i : Bool} : LitG K Γ (tC (.bl i)) (.bool i) := fun _ _ q => d_bl q
theorem lg_str {i : Str} : LitG K Γ (tC (.str i)) (.str i) := fun _ _ q => d_str q
theorem lg_non : LitG K Γ (tC .non) .none := fun _ _ q => d_non q
theorem lg_dnew : LitG K Γ tDNewK (.dict []) := fun _ _ q => d_dnew q
theorem lg_un {i : Int} {g : Int → Int} : LitG K Γ (tUn (rU fun i => .int (g i)) (tC (.int i))) (.int (g i)) := fun _ _ q => d_un (d_int (r_u q))
theorem lg_var {i : Nat} (h : Γ[i]? = some (some (.d d))) : LitG K Γ (tVar i) d := fun _ _ q => d_var h q
theorem lg_add {a b : Int} (ha : LitG K Γ te (.int a)) (hb : LitG K Γ tf (.int b)) : LitG K Γ (tOp (rI0 fun i j => .int (i + j)) te tf) (.int (a + b)) := fun S Q q => d_op (ha _ _ (hb _ _ (r_i q)))
theorem lg_pow {i j : Int} (ha : LitG K Γ te (.int i)) (hb : LitG K Γ tf (.int j)) (hi : i.natAbs < 2 ^ 250) (h0 : 0 ≤ j) (hn : j ≤ 1000) : LitG K Γ (tOp (rI CPowW fun i j => .int (i ^ j.toNat)) te tf) (.int (i ^ j.toNat)) := fun S Q q => d_op (ha _ _ (hb _ _ (r_pow hi h0 hn q)))
theorem lga_nil : LitGA K Γ tNil [] := fun _ _ q => d_anil q
theorem lga_cons (h : LitG K Γ te d) (t : LitGA K Γ ta ds) : LitGA K Γ (tCons te ta) (d :: ds) := fun _ _ q => d_acons (h _ _ (t _ _ q))
theorem lg_lst (h : LitGA K Γ ta ds) (hz : ds.length ≤ 100) : LitG K Γ (tLst ta) (.list ds) := fun _ _ q => d_frz (d_lst (h _ _ ⟨by rw [List.length_map]; exact sz_le (by omega), fun p => ⟨_, _, .l, q⟩⟩))
theorem lg_tup (h : LitGA K Γ ta ds) (hz : ds.length ≤ 100) : LitG K Γ (tTup ta) (.tuple ds) := fun _ _ q => d_frz (d_tup (h _ _ ⟨by rw [List.length_map]; exact sz_le (by omega), fun p => ⟨_, _, .t, q⟩⟩))
theorem rep_map {α β : Type} (f : α → β) (l : List α) : ∀ n : Nat, (List.replicate n (l.map f)).flatten = ((List.replicate n l).flatten).map f
  | 0 => rfl
  | n + 1 => by rw [List.replicate_succ, List.replicate_succ, List.flatten_cons, List.flatten_cons, List.map_append, rep_map f l n]
theorem lg_rep {m : Int} (h : LitGA K Γ ta ds) (hm : LitG K Γ tf (.int m)) (hz : ds.length ≤ 100) (h0 : 0 ≤ m ∧ m ≤ 1000) : LitG K Γ (tOp rRep (tLst ta) tf) (.list (List.replicate m.toNat ds).flatten) := fun S Q q => d_frz (d_op (d_lst (h _ _ ⟨by rw [List.length_map]; exact sz_le (by omega), fun p => hm _ _ (r_rep (xs := ds.map Va.d) (.head _) (by omega) (by omega) (by
  rw [List.length_map]
  have := Nat.mul_le_mul hz (show m.toNat ≤ 1000 by omega)
  exact Nat.le_trans this (by show 100 * 1000 ≤ sizeLine; decide)) fun p2 => ⟨_, S, frz_l (rep_map _ _ _) (.cons _ (.refl _)), q⟩)⟩)))
theorem lg_cat (ha : LitG K Γ te (.list ds)) (hb : LitG K Γ tf (.list es)) (hz : ds.length + es.length ≤ 1000) : LitG K Γ (tOp (rCatL K) te tf) (.list (ds ++ es)) := fun S Q q => d_frz (d_op (ha _ _ (hb _ _ (r_cat (xs := ds.map Va.d) (ys := es.map Va.d) (.d _) (.d _) (by rw [List.length_map, List.length_map]; exact sz_le (by omega)) fun p => ⟨_, S, frz_l (List.map_append).symm (.refl _), q⟩))))
theorem lg_tupOf (h : LitG K Γ te (.list ds)) : LitG K Γ (tCB (rTupOf K) (tCons te tNil)) (.tuple ds) := fun S Q q => d_frz (d_cb (d_acons (h _ _ (d_anil (r_tuple (xs := ds.map Va.d) (.d _) fun p => ⟨_, S, frz_t rfl (.refl _), q⟩)))))
theorem lg_ix0 {d : PyData} (h : LitG K Γ te (.list (d :: ds))) : LitG K Γ (tOp (rIxL K) te (tC (.int 0))) d := fun S Q q => d_op (h _ _ (d_int (r_ix (.d _) (atI_nat' (by decide) rfl) q)))
theorem lg_strI {i : Int} (h : LitG K Γ te (.int i)) (hi : i.natAbs.log2 < 1920) : LitG K Γ (tCB rStrI (tCons te tNil)) (.str (toString i)) := fun S Q q => d_cb (d_acons (h _ _ (d_anil (r_str hi q))))
theorem lg_disp {k : Str} (h : LitG K Γ te d) : LitG K Γ (tDisp [(tC (.str k), te)]) (.dict [(.str k, d)]) := fun S Q q σ F H s c Q' p a ha => by
  refine h ((a, .any (.dK [])) :: S) (fun x S' => x = .d d ∧ S' = (a, .any (.dK [])) :: S) ⟨rfl, rfl⟩ σ F _ s (c.newAny ha) _ ?_
  rintro v F1 H1 x S1 e1 c2 o1 ⟨rfl, rfl⟩
  have hH : H1 a = some (.dK []) := c2.ok _ (.head _)
  have f1 : F1 a = none := c2.fr _ (.head _)
  have o1 : At K F1 v d := o1
  obtain ⟨n1, n2⟩ := List.nodup_cons.mp c2.nd
  have e2 : Same F1 (upd F1 a (.dK [(.inr k, v)])) := same_new f1
  have ne : ∀ q ∈ S, q.1 ≠ a := fun q hq e => n1 (List.mem_map.mpr ⟨q, hq, e⟩)
  refine ⟨hH, [(.inr k, v)], rfl, by show 1 ≤ 15; decide, ?_⟩
  refine p _ (upd F1 a (.dK [(.inr k, v)])) _ (.d (.dict [(.str k, d)])) S (e1.trans e2) ⟨fun b u e => ?_, n2, fun q hq => ?_, fun q hq => ?_⟩ (show At K _ _ _ from At.dct (kvs := [(.inr k, v)]) (ds := [d]) upd_same (.cons (o1.mono e2) .nil)) q
  · by_cases hb : b = a
    · subst hb
      rw [upd_same] at e ⊢
      exact e
    · rw [upd_ne hb] at e ⊢
      exact c2.ex b u e
  · rw [upd_ne (ne q hq)]
    exact c2.fr q (.tail _ hq)
  · exact ((c2.ok q (.tail _ hq)).freeze e2).off (ne q hq)
end
/-! ### repr of long lists -/
def Shw (B k : Nat) (d : PyData) : Prop := (PyData.strOk d.shown = true ∧ d.showable = true ∧ d.hasDict = false) ∧ d.leavesShort 16 = true ∧ d.bulk ≤ B ∧ d.depth ≤ k
theorem shw_leaf {d : PyData} (h : okT 0 d = true) : Shw 2 1 d := okT_f 0 d h
theorem shw_all {B k : Nat} : ∀ ds : List PyData, (∀ d ∈ ds, Shw B k d) → (∀ t ∈ ds.map PyData.shown, PyData.strOk t = true) ∧ PyData.showableAll ds = true ∧ PyData.hasDictAll ds = false ∧ PyData.leavesShortAll 16 ds = true ∧ PyData.bulkAll ds ≤ ds.length * (B + 1) ∧ PyData.depthAll ds ≤ k := by
  intro ds
  induction ds with
  | nil => exact fun _ => ⟨fun t h => (by cases h), by simp [PyData.showableAll], by simp [PyData.hasDictAll], by simp [PyData.leavesShortAll], by simp [PyData.bulkAll], by simp [PyData.depthAll]⟩
  | cons d ds ih2 =>
    intro h
    obtain ⟨⟨a1, a2, a3⟩, a4, a5, a6⟩ := h d (.head _)
    obtain ⟨b1, b2, b3, b4, b5, b6⟩ := ih2 fun x hx => h x (.tail _ hx)
    refine ⟨fun t ht => ?_, by rw [PyData.showableAll, a2, b2]; rfl, by rw [PyData.hasDictAll, a3, b3]; rfl, by rw [PyData.leavesShortAll, a4, b4]; rfl, ?_, by rw [PyData.depthAll]; omega⟩
    · rw [List.map_cons] at ht
      rcases List.mem_cons.mp ht with rfl | ht
      · exact a1
      · exact b1 t ht
    · rw [PyData.bulkAll, List.length_cons, Nat.succ_mul]
      omega
theorem shw_list {B k n : Nat} {ds : List PyData} (h : ∀ d ∈ ds, Shw B k d) (hl : ds.length ≤ n) : Shw (1 + n * (B + 1)) (k + 1) (.list ds) := by
  obtain ⟨b1, b2, b3, b4, b5, b6⟩ := shw_all ds h
  have := Nat.mul_le_mul_right (B + 1) hl
  refine ⟨⟨?_, by rw [PyData.showable]; exact b2, by rw [PyData.hasDict]; exact b3⟩, by rw [PyData.leavesShort]; exact b4, by rw [PyData.bulk]; omega, by rw [PyData.depth]; omega⟩
  rw [PyData.shown, shownAll_eq_map]
  exact listText_ok b1
theorem Shw.up {B B' k k' : Nat} {d : PyData} (h : Shw B k d) (e : B ≤ B') (e2 : k ≤ k') : Shw B' k' d := ⟨h.1, h.2.1, by have := h.2.2.1; omega, by have := h.2.2.2; omega⟩
theorem r_reprW {K : PySem.W.Frag} {S : Sto} {Q : QE} {x : Va} {B k : Nat} {d : PyData} (h : Shw B k d) (hx : Sees S x d) (hB : B ≤ 100000) (hk : k ≤ 60) (q : Q (.d (.str d.shown)) S) : dRL K (rReprX K) [x] S Q := by
  have c : sizeLine = 2 ^ 24 := rfl
  obtain ⟨⟨a1, a2, a3⟩, a4, a5, a6⟩ := h
  have e := PyData.shown_le_bulk 16 (by decide) d a4
  exact r_reprX hx (.inl a3) a2 (by omega) (by omega) q
theorem rule_nice {R : List (List Int)} {n : Nat} (h : RuleOk R n) : Nice (lli R) := .inl (okT_l (k := 2) (by rw [List.length_map, h.hl]; have := h.h2; omega) fun d hd => by
  obtain ⟨r, hr, rfl⟩ := List.mem_map.mp hd
  obtain ⟨hp, hl⟩ := h.hr r hr
  have n12 := h.h2
  exact okT_l (by rw [List.length_map]; omega) fun e he => by
    obtain ⟨i, hi, rfl⟩ := List.mem_map.mp he
    have := hp.mem hi
    exact okT_i (by omega))
theorem nice_bb (b : Bool) : Nice (.list [.bool b, .bool b]) := .inl (by cases b <;> decide +kernel)
end DL

/-! DK: dicts whose keys are tuples of ints, as cells. -/
namespace DL
open PySem PySem.Spec PyProof.Rows L2

/-- the values that a cell can name: addresses, ints, None, booleans -/
def vaV : Va → V
  | .r a => .ref a
  | .d (.int i) => .int i
  | .d (.bool b) => .bl b
  | _ => .non
inductive FlV : Va → Prop
  | r (a : Addr) : FlV (.r a)
  | i (i : Int) : FlV (.d (.int i))
  | b (b : Bool) : FlV (.d (.bool b))
  | n : FlV (.d .none)
abbrev Dt := List (List Int × Va)
def kT (ks : List Int) : List Key := ks.map Sum.inl
def dtK (D : Dt) : List (List Key × V) := D.map fun p => (kT p.1, vaV p.2)
abbrev dtC (D : Dt) : Ce := .any (.dT (dtK D))
def getT (D : Dt) (k : List Int) : Option Va := (D.find? fun p => decide (p.1 = k)).map (·.2)
def putT (D : Dt) (k : List Int) (v : Va) : Dt := if (D.any fun p => decide (p.1 = k)) = true then D.map (fun p => if p.1 = k then (p.1, v) else p) else D ++ [(k, v)]
theorem kT_inj {a b : List Int} (h : kT a = kT b) : a = b := List.map_inj_right (fun _ _ e => Sum.inl.inj e) |>.mp h
theorem kT_dec (a b : List Int) : decide (kT a = kT b) = decide (a = b) := decide_eq_decide.mpr ⟨kT_inj, fun h => by rw [h]⟩
theorem valV_T (k : List Int) : ∀ D : Dt, valV (dtK D) (kT k) = (getT D k).map vaV
  | [] => rfl
  | p :: D => by
    have ih := valV_T k D
    unfold valV getT dtK at ih ⊢
    rw [List.map_cons, List.find?_cons, List.find?_cons]
    dsimp only
    rw [kT_dec]
    by_cases h : p.1 = k
    · rw [decide_eq_true h]; rfl
    · rw [decide_eq_false h]; exact ih
theorem putK_T (D : Dt) (k : List Int) (v : Va) : putK (dtK D) (kT k) (vaV v) = dtK (putT D k v) := by
  unfold putK putT
  have e : ((dtK D).any fun kv => decide (kv.1 = kT k)) = D.any fun p => decide (p.1 = k) := by
    unfold dtK
    rw [List.any_map]
    congr 1
    funext p
    exact kT_dec p.1 k
  rw [e]
  split
  · unfold dtK
    rw [List.map_map, List.map_map]
    refine List.map_congr_left fun p _ => ?_
    show (if kT p.1 = kT k then _ else _) = _
    by_cases h : p.1 = k
    · simp [h]
    · rw [if_neg fun z => h (kT_inj z)]
      simp [h]
  · unfold dtK
    rw [List.map_append]
    rfl
theorem dtK_len (D : Dt) : (dtK D).length = D.length := List.length_map _
section
variable {K : PySem.W.Frag} {F F' H H' : Hp} {S S' : Sto} {Γ : Env} {σ : L2.St} {x y z : Va} {v : V} {Q : QE} {te ta tb td ty : TE} {N : DEnds}
theorem flV_ok {F : Hp} {x : Va} (h : FlV x) : VaOk K F x (vaV x) := by
  cases h with
  | r a => exact okR
  | i i => exact okD (.int i)
  | b b => exact okD (.bl b)
  | n => exact okD .non
theorem flV_eq {F : Hp} {x : Va} {v : V} (h : FlV x) (o : VaOk K F x v) : v = vaV x := by
  cases h with
  | r a => exact o
  | i i => cases o; rfl
  | b b => cases o; rfl
  | n => cases o; rfl
theorem key_tup (c : Cf K S F H) {b : Addr} {ks : List Int} (m : (b, .tup (vi ks)) ∈ S) : H b = some (.tup ((kT ks).map L2.kV)) := by
  obtain ⟨vs, e, r⟩ := c.ok _ m
  rw [vi_vals r] at e
  rw [e]
  unfold kT
  rw [List.map_map]
  rfl
theorem getT_c (c : Cf K S F H) {a b : Addr} {D : Dt} {ks : List Int} (h : (a, dtC D) ∈ S) (m : (b, .tup (vi ks)) ∈ S) : DGet H a (.ref b) ((getT D ks).map vaV) := by
  rw [← valV_T]
  exact .t (c.ok _ h) (key_tup c m)
theorem d_dnewT (q : ∀ p, Q (.r p) ((p, dtC []) :: S)) : dE K tDNewT Γ S Q := fun σ F H s c Q' p a ha => p _ F _ _ _ (.refl F) (c.newO ha _) okR (q a)
theorem d_dgetT (h : dE K td Γ S fun x S1 => dE K ty Γ S1 fun y S2 => ∃ a D b ks v, x = .r a ∧ (a, dtC D) ∈ S2 ∧ y = .r b ∧ (b, .tup (vi ks)) ∈ S2 ∧ getT D ks = some v ∧ FlV v ∧ Q v S2) : dE K (tDGet td ty) Γ S Q := fun σ F H s c Q' p =>
  h σ F H s c _ fun v F1 H1 x S1 e1 c1 o1 h1 => h1 σ F1 H1 (s.mono e1) c1 _ fun u F2 H2 y S2 e2 c2 o2 ⟨a, D, b, ks, w, ex, g, ey, m, hg, hf, q⟩ => by
    subst ex ey
    cases o1
    cases o2
    have := getT_c c2 g m
    rw [hg] at this
    exact ⟨a, vaV w, rfl, this, p _ F2 H2 _ S2 (e1.trans e2) c2 (flV_ok hf) q⟩
theorem d_dinT (h : dE K ty Γ S fun y S1 => dE K td Γ S1 fun x S2 => ∃ a D b ks, x = .r a ∧ (a, dtC D) ∈ S2 ∧ y = .r b ∧ (b, .tup (vi ks)) ∈ S2 ∧ Q (.d (.bool (getT D ks).isSome)) S2) : dE K (tDIn ty td) Γ S Q := fun σ F H s c Q' p =>
  h σ F H s c _ fun v F1 H1 y S1 e1 c1 o1 h1 => h1 σ F1 H1 (s.mono e1) c1 _ fun u F2 H2 x S2 e2 c2 o2 ⟨a, D, b, ks, ex, g, ey, m, q⟩ => by
    subst ex ey
    cases o1
    cases o2
    refine ⟨a, _, rfl, getT_c c2 g m, p _ F2 H2 _ S2 (e1.trans e2) c2 (okD (.bl _)) ?_⟩
    rw [Option.isSome_map]
    exact q
theorem d_dnotinT (h : dE K ty Γ S fun y S1 => dE K td Γ S1 fun x S2 => ∃ a D b ks, x = .r a ∧ (a, dtC D) ∈ S2 ∧ y = .r b ∧ (b, .tup (vi ks)) ∈ S2 ∧ Q (.d (.bool (!(getT D ks).isSome))) S2) : dE K (tDNotIn ty td) Γ S Q := fun σ F H s c Q' p =>
  h σ F H s c _ fun v F1 H1 y S1 e1 c1 o1 h1 => h1 σ F1 H1 (s.mono e1) c1 _ fun u F2 H2 x S2 e2 c2 o2 ⟨a, D, b, ks, ex, g, ey, m, q⟩ => by
    subst ex ey
    cases o1
    cases o2
    refine ⟨a, _, rfl, getT_c c2 g m, p _ F2 H2 _ S2 (e1.trans e2) c2 (okD (.bl _)) ?_⟩
    rw [Option.isSome_map]
    exact q
theorem g_dsetT {n : Env → Sto → Prop} (h : dE K ta Γ S fun o S1 => dE K tb Γ S1 fun i S2 => ∃ a D b ks S', o = .r a ∧ i = .r b ∧ (b, .tup (vi ks)) ∈ S2 ∧ FlV x ∧ Upd S2 a (dtC D) (dtC (putT D ks x)) S' ∧ D.length < sizeLine ∧ n Γ S') : dG K (gSub ta tb rSetD) x Γ S n := fun v σ F H s c o Q' p =>
  h σ F H s c _ fun v1 F1 H1 x1 S1 e1 c1 o1 h1 => h1 σ F1 H1 (s.mono e1) c1 _ fun v2 F2 H2 x2 S2 e2 c2 o2 ⟨a, D, b, ks, S', ea, ei, m, hf, u, hz, q⟩ => by
    subst ea ei
    cases o1
    cases o2
    have ev := flV_eq hf o
    refine ⟨a, upd H2 a (.dT (dtK (putT D ks x))), rfl, .inr ⟨dtK D, kT ks, b, c2.ok _ u.mem, rfl, key_tup c2 m, by rw [dtK_len]; exact hz, by rw [ev, putK_T]⟩, ?_⟩
    exact p _ F2 _ _ S' (e1.trans e2) (s.mono (e1.trans e2)) (c2.updO u) q
end
theorem getT_put {D : Dt} {k k2 : List Int} {v : Va} : getT (putT D k v) k2 = if k = k2 then some v else getT D k2 := by
  unfold putT
  by_cases h : (D.any fun p => decide (p.1 = k)) = true
  · rw [if_pos h]
    induction D with
    | nil => simp at h
    | cons p D ih =>
      unfold getT at ih ⊢
      rw [List.map_cons, List.find?_cons, List.find?_cons]
      by_cases e : p.1 = k
      · rw [if_pos e]
        dsimp only
        by_cases e2 : k = k2
        · subst e2
          rw [decide_eq_true e, if_pos rfl]
          rfl
        · have e3 : ¬ p.1 = k2 := fun z => e2 (e.symm.trans z)
          rw [decide_eq_false e3, if_neg e2]
          have rest : ∀ D : Dt, (List.find? (fun p => decide (p.1 = k2)) (D.map fun p => if p.1 = k then (p.1, v) else p)).map (·.2) = (List.find? (fun p => decide (p.1 = k2)) D).map (·.2) := by
            intro D
            induction D with
            | nil => rfl
            | cons q D ih2 =>
              rw [List.map_cons, List.find?_cons, List.find?_cons]
              by_cases f : q.1 = k
              · have f2 : ¬ q.1 = k2 := fun z => e2 (f.symm.trans z)
                rw [if_pos f]
                dsimp only
                rw [decide_eq_false f2]
                exact ih2
              · rw [if_neg f]
                by_cases g : q.1 = k2
                · rw [decide_eq_true g]
                · rw [decide_eq_false g]
                  exact ih2
          exact rest D
      · rw [if_neg e]
        have h2 : (D.any fun p => decide (p.1 = k)) = true := by
          rw [List.any_cons, decide_eq_false e, Bool.false_or] at h
          exact h
        by_cases e2 : p.1 = k2
        · rw [decide_eq_true e2, if_neg fun z => e (e2.trans z.symm)]
        · rw [decide_eq_false e2]
          exact ih h2
  · rw [if_neg h]
    unfold getT
    rw [List.find?_append]
    have h : ∀ q ∈ D, ¬ q.1 = k := by
      intro q hq z
      exact h (List.any_eq_true.mpr ⟨q, hq, decide_eq_true z⟩)
    by_cases e : k = k2
    · subst e
      rw [if_pos rfl, List.find?_eq_none.mpr fun q hq => by rw [decide_eq_false (h q hq)]; exact Bool.false_ne_true]
      show (List.find? (fun p => decide (p.1 = k)) [(k, v)]).map (·.2) = some v
      rw [List.find?_cons, decide_eq_true rfl]
      rfl
    · rw [if_neg e]
      have : List.find? (fun p => decide (p.1 = k2)) [(k, v)] = none := by
        rw [List.find?_cons, decide_eq_false e]
        rfl
      rw [this, Option.or_none]
end DL

/-! DB: sums of booleans, divmod. -/
namespace DL
open PySem PySem.Spec PyProof.Rows L2

def oneB (b : Bool) : Int := if b = true then 1 else 0
theorem sum_oneB : ∀ bs : List Bool, (bs.map oneB).sum = ((bs.count true : Nat) : Int)
  | [] => rfl
  | b :: bs => by
    rw [List.map_cons, List.sum_cons, sum_oneB bs, List.count_cons]
    cases b
    · show (0 : Int) + _ = ((bs.count true + 0 : Nat) : Int)
      omega
    · show (1 : Int) + _ = ((bs.count true + 1 : Nat) : Int)
      omega
theorem sum_bls {prog : Program} {w : World} {A : Around} {E : Value → Shared → Prop} {s : Shared} {l : Addr} {its : List Value} {bs : List Bool} {Q : Value → Shared → Prop} (hh : A.handled = none) (hl : s.heap.IsList l its.toArray) (hi : its = bs.map Value.bool)
    (h : ∀ h' tk t', (∀ b o, s.heap.get? b = some o → h'.get? b = some o) → Q (.int ((bs.count true : Nat) : Int) t') { s with heap := h', toks := tk }) : wpAny (model prog w) A (call (.builtin "sum") [.ref l]) Q E s := by
  refine call_sum_walkAnyB (PySem.W.iter_listW (A := A.in1) hh hl fun s₂ e W st hfp hfr hk => ⟨_, _, _, _, _, _, _, fun j => (bs.map oneB).getD j 0, rfl, W, st, hfp, fun i v hv => ?_, fun s' t' hm => ?_⟩)
  · subst hi
    rw [List.getElem?_toArray, List.getElem?_map] at hv
    obtain ⟨b, hb, rfl⟩ := Option.map_eq_some_iff.mp hv
    refine .inr ⟨b, rfl, ?_⟩
    show (bs.map oneB).getD i 0 = oneB b
    rw [List.getD_eq_getElem?_getD, List.getElem?_map, hb]
    rfl
  · have n : its.toArray.size = bs.length := by rw [hi, List.size_toArray, List.length_map]
    rw [n, preSum_getD, List.take_of_length_le (by rw [List.length_map]; exact Nat.le_refl _), sum_oneB]
    have k2 : ∀ b o, s.heap.get? b = some o → s'.heap.get? b = some o := fun b o q => hm.heap b o (hfr b o q) (hk b o q)
    have z := h s'.heap s'.toks t' k2
    have e2 : s' = { s with heap := s'.heap, toks := s'.toks } := by
      obtain ⟨h1, h2, h3, h4, h5⟩ := hm
      subst e
      cases s'
      cases s
      simp only at h2 h3 h4
      subst h2 h3 h4
      rfl
    rw [e2]
    exact z
def rSumB (K : PySem.W.Frag) : List V → Hp → VK → Prop := fun vs H Q => ∃ (a : Addr) (bs : List Bool), vs = [V.ref a] ∧ SqL K H a (bs.map V.bl) ∧ Q (.int ((bs.count true : Nat) : Int)) H
theorem cr_sumB {X : Cx} (hc : X.calm = true) : CallR X (.builtin "sum") (rSumB X.K) := by
  intro pins s σ H vs us Q I r h
  obtain ⟨a, bs, rfl, hs, q⟩ := h
  obtain ⟨its, rv, hl, _⟩ := I.list hs
  rw [Vals.ref1 r]
  exact sum_bls (I.ok.hd hc) hl.isList (vals_bl rv) fun h' tk t' hk => ⟨.int _, H, I.kept hk, ⟨_, rfl⟩, q⟩
theorem kSumB {X : Cx} (K : PySem.W.Frag) (hc : X.calm = true) (h : X.K = K := by rfl) : CallR X (.builtin "sum") (rSumB K) := h ▸ cr_sumB hc
theorem kSumI {X : Cx} (K : PySem.W.Frag) (hc : X.calm = true) (h : X.K = K := by rfl) : CallR X (.builtin "sum") (rSum K) := h ▸ cr_sum hc
section
variable {K : PySem.W.Frag} {F F' H H' : Hp} {S S' : Sto} {x y z : Va} {Q : QE}
theorem r_sumI {ns : List Int} (hx : Lst S x (vi ns)) (q : Q (.d (.int ns.sum)) S) : dRL K (rSum K) [x] S Q := fun vs F H c o Q' p => by
  obtain _ | ⟨o1, _ | _⟩ := o
  have a1 := (sees_vi hx).at_ c o1
  cases a1 with
  | lst h t =>
    have e := ints_of t
    subst e
    exact ⟨_, ns, rfl, h, p _ F H _ S (.refl F) c (okD (.int _)) q⟩
theorem dvm_ok {i j : Int} (hi : i.natAbs < 2 ^ 100) (hj : 0 < j) : CDivP i j := divp_ok hj (by
  have := PyProof.Rows.intBits_le hi
  omega)
theorem r_sumB {bs : List Bool} (hx : Sees S x (.list (bs.map PyData.bool))) (q : Q (.d (.int (bs.count true : Nat))) S) : dRL K (rSumB K) [x] S Q := fun vs F H c o Q' p => by
  obtain _ | ⟨o1, _ | _⟩ := o
  have a1 := hx.at_ c o1
  cases a1 with
  | lst h t =>
    have e := bls_of t
    subst e
    exact ⟨_, bs, rfl, h, p _ F H _ S (.refl F) c (okD (.int _)) q⟩
/-- divmod(i, j), j above 0 -/
def rDvm : List V → Hp → VK → Prop := fun xs H Q => ∃ i j, xs = [.int i, .int j] ∧ CDivP i j ∧ ∀ p, H p = none → Q (.ref p) (upd H p (.tup [.int (i / j), .int (i % j)]))
theorem kDvm {X : Cx} : CallR X (.builtin "divmod") rDvm := call_divmodW
theorem r_dvm {i j : Int} (h : CDivP i j) (q : ∀ p, Q (.r p) ((p, .tup [.d (.int (i / j)), .d (.int (i % j))]) :: S)) : dRL K rDvm [.d (.int i), .d (.int j)] S Q := fun vs F H c o Q' p => by
  obtain _ | ⟨o1, _ | ⟨o2, _ | _⟩⟩ := o
  cases o1; cases o2
  exact ⟨i, j, rfl, h, fun l hl => p _ F _ _ _ (.refl F) (c.newT hl (.cons (okD (.int _)) (.cons (okD (.int _)) .nil))) okR (q l)⟩
end
theorem room65 {k : Nat} {A : Around} (r : Room k A) : A.units + 65 < cLine := by
  have := r.un
  omega
theorem kIndexD {X : Cx} (K : PySem.W.Frag) (hu : X.A.units + 65 < cLine) (h : X.K = K := by rfl) : MtR X "list.index" (rIndexD K) := h ▸ mt_indexD hu
theorem r_indexD {K : PySem.W.Frag} {S : Sto} {x y : Va} {Q : QE} {d z : PyData} {ds : List PyData} {j : Nat} (hx : Sees S x (.list ds)) (hy : Sees S y d) (sl : SeqAt.shaped (.list ds) = true) (sd : SeqAt.shaped d = true) (hz : ds[j]? = some z) (e : PyData.eqv z d = true)
    (no : ∀ m z', m < j → ds[m]? = some z' → PyData.eqv z' d = false) (q : Q (.d (.int (j : Nat))) S) : dRM K (rIndexD K) x [y] S Q := fun v vs F H c o1 o2 Q' p => by
  obtain _ | ⟨oy, _ | _⟩ := o2
  have a1 := (hx.at_ c o1).dp (PyData.hasDict_of_canLay _ (SeqAt.canLay_of_shaped sl))
  have a2 := (hy.at_ c oy).dp (PyData.hasDict_of_canLay _ (SeqAt.canLay_of_shaped sd))
  have a0 := hx.at_ c o1
  cases a0 with
  | lst h t => exact ⟨_, _, d, ds, j, z, rfl, rfl, a1, a2, sl, sd, hz, e, no, p _ F H _ S (.refl F) c (okD (.int _)) q⟩
theorem any_rowsI (rows : List (List Int)) (row : List Int) : ((rows.map li).any fun z => PyData.eqv z (li row)) = decide (row ∈ rows) := by
  rw [List.any_map]
  induction rows with
  | nil => rfl
  | cons c r ih =>
    rw [List.any_cons, ih]
    show (PyData.eqv (li c) (li row) || _) = _
    rw [eqv_li]
    by_cases h : c = row
    · subst h; simp
    · have h2 : ¬ row = c := fun z => h z.symm
      simp [h, h2]
end DL

/-! DP: rounds, plainly. -/
namespace DL
open PySem PySem.Spec PyProof.Rows L2

theorem s_env {K : PySem.W.Frag} {S : Sto} {N : DEnds} {t : TS} {Γ : Env} (Γ' : Env) (e : Γ = Γ') (q : dS K t N Γ' S) : dS K t N Γ S := e ▸ q
/-- the rows behind whole rounds, and their hits -/
def rowT (R : List (List Int)) (s row : List Int) : Nat → List Int
  | 0 => row
  | t + 1 => rowI R (rowT R s row t) s
def cntT (R : List (List Int)) (s row : List Int) (t : Nat) : Int := (((outI R (rowT R s row t) s).count true : Nat) : Int)
def hitT (R : List (List Int)) (s row : List Int) : Nat → Int
  | 0 => 0
  | t + 1 => hitT R s row t + cntT R s row t
def rowsT (R : List (List Int)) (s row : List Int) (t : Nat) : List (List Int) := (List.range t).map (rowT R s row)
def cntsT (R : List (List Int)) (s row : List Int) (t : Nat) : List Int := (List.range t).map (cntT R s row)
theorem rowsT_len (R : List (List Int)) (s row : List Int) (t : Nat) : (rowsT R s row t).length = t := by rw [rowsT, List.length_map, List.length_range]
theorem cntsT_len (R : List (List Int)) (s row : List Int) (t : Nat) : (cntsT R s row t).length = t := by rw [cntsT, List.length_map, List.length_range]
theorem rowsT_snoc (R : List (List Int)) (s row : List Int) (t : Nat) : rowsT R s row (t + 1) = rowsT R s row t ++ [rowT R s row t] := by
  unfold rowsT
  rw [List.range_succ, List.map_append]
  rfl
theorem cntsT_snoc (R : List (List Int)) (s row : List Int) (t : Nat) : cntsT R s row (t + 1) = cntsT R s row t ++ [cntT R s row t] := by
  unfold cntsT
  rw [List.range_succ, List.map_append]
  rfl
theorem rowT_ok {R : List (List Int)} {n : Nat} (hR : RuleOk R n) {s row : List Int} (hrow : RowOk row n) (hs : ∀ b ∈ s, Blk b) : ∀ t, RowOk (rowT R s row t) n
  | 0 => hrow
  | t + 1 => by
    have ih := rowT_ok hR hrow hs t
    have bk : ∀ (s row : List Int), row.length = n → (∀ b ∈ row, Blk b) → (∀ b ∈ s, Blk b) → ∀ b ∈ rowI R row s, Blk b := by
      intro s
      induction s with
      | nil => exact fun row _ h _ => h
      | cons b s ih =>
        intro row hl hr hs
        exact ih (accI R row b) (acc_len hR hl b) (fun x hx => by
          rcases mem_acc hR hl hx with m | rfl
          · exact hr x m
          · exact hs _ (.head _)) fun x hx => hs x (.tail _ hx)
    obtain ⟨h1, h2⟩ := rowI_ok hR s _ ih.hl ih.nd
    exact ⟨h1, h2, bk s _ ih.hl ih.bk hs⟩
/-- rows come round, within so many rounds -/
def Round (R : List (List Int)) (s row : List Int) (m : Nat) : Prop := ∃ i j, i < j ∧ j ≤ m ∧ rowT R s row i = rowT R s row j
/-- the first row that comes round -/
structure Per (R : List (List Int)) (s row : List Int) (f m : Nat) : Prop where
  lt : f < m
  eq : rowT R s row f = rowT R s row m
  nd : (rowsT R s row m).Nodup
theorem rowT_add (R : List (List Int)) (s row : List Int) (a : Nat) : ∀ b, rowT R s row (a + b) = rowT R s (rowT R s row a) b
  | 0 => rfl
  | b + 1 => congrArg (rowI R · s) (rowT_add R s row a b)
theorem cntT_add (R : List (List Int)) (s row : List Int) (a b : Nat) : cntT R s row (a + b) = cntT R s (rowT R s row a) b := by
  unfold cntT
  rw [rowT_add]
theorem hitT_add (R : List (List Int)) (s row : List Int) (a : Nat) : ∀ b, hitT R s row (a + b) = hitT R s row a + hitT R s (rowT R s row a) b
  | 0 => (Int.add_zero _).symm
  | b + 1 => by
    show hitT R s row (a + b) + cntT R s row (a + b) = hitT R s row a + (hitT R s (rowT R s row a) b + cntT R s (rowT R s row a) b)
    rw [hitT_add R s row a b, cntT_add]
    omega
theorem per_row {R : List (List Int)} {s row : List Int} {f m : Nat} (h : Per R s row f m) : ∀ k r, rowT R s row (f + (k * (m - f) + r)) = rowT R s row (f + r)
  | 0, r => by rw [Nat.zero_mul, Nat.zero_add]
  | k + 1, r => by
    have hlt := h.lt
    have e : f + ((k + 1) * (m - f) + r) = m + (k * (m - f) + r) := by
      rw [Nat.succ_mul]
      omega
    rw [e, rowT_add, ← h.eq, ← rowT_add]
    exact per_row h k r
theorem per_hit {R : List (List Int)} {s row : List Int} {f m : Nat} (h : Per R s row f m) : ∀ k r, hitT R s row (f + (k * (m - f) + r)) = hitT R s row (f + r) + (k : Int) * (hitT R s row m - hitT R s row f)
  | 0, r => by
    rw [Nat.zero_mul, Nat.zero_add]
    show _ = _ + (0 : Int) * _
    rw [Int.zero_mul, Int.add_zero]
  | k + 1, r => by
    have hlt := h.lt
    have e : f + ((k + 1) * (m - f) + r) = m + (k * (m - f) + r) := by
      rw [Nat.succ_mul]
      omega
    have ih := per_hit h k r
    rw [hitT_add] at ih
    rw [e, hitT_add, ← h.eq]
    have e2 : (((k + 1 : Nat) : Int)) * (hitT R s row m - hitT R s row f) = (k : Int) * (hitT R s row m - hitT R s row f) + (hitT R s row m - hitT R s row f) := by
      rw [Int.natCast_add, Int.add_mul]
      omega
    rw [e2]
    omega
theorem cnts_take (R : List (List Int)) (s row : List Int) (m : Nat) : ∀ t, t ≤ m → ((cntsT R s row m).take t).sum = hitT R s row t
  | 0, _ => rfl
  | t + 1, h => by
    have hlt : t < m := h
    rw [List.take_add_one, List.sum_append, cnts_take R s row m t (by omega)]
    unfold cntsT
    rw [List.getElem?_map, List.getElem?_range hlt]
    show _ + (cntT R s row t + 0) = hitT R s row t + cntT R s row t
    rw [Int.add_zero]
theorem cnts_drop (R : List (List Int)) (s row : List Int) {m t : Nat} (h : t ≤ m) : ((cntsT R s row m).drop t).sum = hitT R s row m - hitT R s row t := by
  have h1 := cnts_take R s row m m (Nat.le_refl _)
  rw [← List.take_append_drop t (cntsT R s row m), List.take_of_length_le (by rw [List.take_append_drop, cntsT_len]; exact Nat.le_refl _), List.sum_append, cnts_take R s row m t h] at h1
  omega
def vlT (rs : List (List Int)) : List Va := rs.map fun r => .d (li r)
theorem vlT_len (rs : List (List Int)) : (vlT rs).length = rs.length := List.length_map _
theorem vlT_snoc (rs : List (List Int)) (r : List Int) : vlT rs ++ [.d (li r)] = vlT (rs ++ [r]) := by
  unfold vlT
  rw [List.map_append]
  rfl
def dtT (R : List (List Int)) (s row : List Int) (t : Nat) : Dt := (List.range t).map fun i => (rowT R s row i, .d (.int ((i : Nat) : Int)))
theorem dtT_len (R : List (List Int)) (s row : List Int) (t : Nat) : (dtT R s row t).length = t := by rw [dtT, List.length_map, List.length_range]
theorem mem_rowsT {R : List (List Int)} {s row r : List Int} {t : Nat} : r ∈ rowsT R s row t ↔ ∃ i, i < t ∧ rowT R s row i = r := by
  unfold rowsT
  rw [List.mem_map]
  exact ⟨fun ⟨i, h, e⟩ => ⟨i, List.mem_range.mp h, e⟩, fun ⟨i, h, e⟩ => ⟨i, List.mem_range.mpr h, e⟩⟩
theorem getT_no {R : List (List Int)} {s row k : List Int} {t : Nat} (h : k ∉ rowsT R s row t) : getT (dtT R s row t) k = none := by
  unfold getT
  rw [List.find?_eq_none.mpr fun q hq => ?_]
  · rfl
  · unfold dtT at hq
    obtain ⟨i, hi, rfl⟩ := List.mem_map.mp hq
    intro z
    exact h (mem_rowsT.mpr ⟨i, List.mem_range.mp hi, of_decide_eq_true z⟩)
theorem putT_no {R : List (List Int)} {s row k : List Int} {t : Nat} (h : k ∉ rowsT R s row t) (v : Va) : putT (dtT R s row t) k v = dtT R s row t ++ [(k, v)] := by
  unfold putT
  rw [if_neg]
  intro z
  obtain ⟨q, hq, e⟩ := List.any_eq_true.mp z
  unfold dtT at hq
  obtain ⟨i, hi, rfl⟩ := List.mem_map.mp hq
  exact h (mem_rowsT.mpr ⟨i, List.mem_range.mp hi, of_decide_eq_true e⟩)
theorem dtT_snoc (R : List (List Int)) (s row : List Int) (t : Nat) : dtT R s row (t + 1) = dtT R s row t ++ [(rowT R s row t, .d (.int ((t : Nat) : Int)))] := by
  unfold dtT
  rw [List.range_succ, List.map_append]
  rfl
theorem getT_yes {R : List (List Int)} {s row : List Int} : ∀ {t f : Nat}, (rowsT R s row t).Nodup → f < t → getT (dtT R s row t) (rowT R s row f) = some (.d (.int ((f : Nat) : Int)))
  | t + 1, f, nd, h => by
    rw [rowsT_snoc] at nd
    obtain ⟨n1, _, n3⟩ := List.nodup_append.mp nd
    rw [dtT_snoc]
    unfold getT
    rw [List.find?_append]
    by_cases c : f < t
    · have := getT_yes n1 c
      unfold getT at this
      obtain ⟨q, hq, e⟩ := Option.map_eq_some_iff.mp this
      rw [hq]
      show some q.2 = _
      rw [e]
    · have e : f = t := by omega
      subst e
      have hno : rowT R s row f ∉ rowsT R s row f := fun z => n3 _ z _ (List.mem_singleton.mpr rfl) rfl
      have := getT_no hno
      unfold getT at this
      rw [Option.map_eq_none_iff] at this
      rw [this, Option.none_or, List.find?_cons, decide_eq_true rfl]
      rfl
theorem no_more {R : List (List Int)} {s row : List Int} {m : Nat} (h : Round R s row m) (nd : (rowsT R s row m).Nodup) : rowT R s row m ∈ rowsT R s row m := by
  obtain ⟨i, j, h1, h2, e⟩ := h
  by_cases c : j = m
  · subst c
    exact mem_rowsT.mpr ⟨i, h1, e⟩
  · exfalso
    have hp := List.nodup_iff_pairwise_ne.mp nd
    unfold rowsT at hp
    rw [List.pairwise_map] at hp
    have := List.pairwise_iff_getElem.mp hp i j (by rw [List.length_range]; omega) (by rw [List.length_range]; omega) h1
    rw [List.getElem_range, List.getElem_range] at this
    exact this e
theorem rows_at {R : List (List Int)} {s row : List Int} {m i : Nat} (h : i < m) : atI (vlT (rowsT R s row m)) ((i : Nat) : Int) = some (.d (li (rowT R s row i))) := by
  refine atI_nat' (by omega) ?_
  rw [Int.toNat_natCast]
  unfold vlT rowsT
  rw [List.getElem?_map, List.getElem?_map, List.getElem?_range h]
  rfl
theorem far {f m : Nat} (h : f < m) {t : Nat} (ht : f ≤ t) : ∃ k r : Nat, r < m - f ∧ t = f + (k * (m - f) + r) ∧ ((t : Int) - f) / ((m : Int) - f) = k ∧ ((t : Int) - f) % ((m : Int) - f) = r := by
  refine ⟨(t - f) / (m - f), (t - f) % (m - f), Nat.mod_lt _ (by omega), ?_, ?_, ?_⟩
  · have := Nat.div_add_mod (t - f) (m - f)
    rw [Nat.mul_comm] at this
    omega
  · rw [show (t : Int) - f = ((t - f : Nat) : Int) by omega, show (m : Int) - f = ((m - f : Nat) : Int) by omega]
    rfl
  · rw [show (t : Int) - f = ((t - f : Nat) : Int) by omega, show (m : Int) - f = ((m - f : Nat) : Int) by omega]
    rfl
theorem vlT_sees {S : Sto} {a : Addr} {rs : List (List Int)} (h : (a, Ce.lst (vlT rs)) ∈ S) : Sees S (.r a) (.list (rs.map li)) := Sees.ofLst (.r (by
  unfold vlT at h
  rw [List.map_map]
  exact h))
end DL

/-! DQ: misses, hits, and how many rows there can be. -/
namespace DL
open PySem PySem.Spec PyProof.Rows L2

/-! ### counting rows -/
theorem sub_len {α : Type} [DecidableEq α] : ∀ {l k : List α}, l.Nodup → (∀ x ∈ l, x ∈ k) → l.length ≤ k.length
  | [], _, _, _ => Nat.zero_le _
  | a :: l, k, nd, h => by
    obtain ⟨h1, h2⟩ := List.nodup_cons.mp nd
    have hk : a ∈ k := h a (.head _)
    have := sub_len (k := k.erase a) h2 fun x hx => (List.mem_erase_of_ne (fun e : x = a => h1 (by rw [← e]; exact hx))).mpr (h x (.tail _ hx))
    rw [List.length_erase_of_mem hk] at this
    have : 0 < k.length := List.length_pos_of_mem hk
    simp only [List.length_cons]
    omega
/-- every list of n different ones -/
def arr : Nat → List Int → List (List Int)
  | 0, _ => [[]]
  | n + 1, A => A.flatMap fun a => (arr n (A.erase a)).map (a :: ·)
theorem mem_arr : ∀ {n : Nat} {A l : List Int}, l.length = n → l.Nodup → (∀ x ∈ l, x ∈ A) → l ∈ arr n A
  | 0, _, [], _, _, _ => .head _
  | n + 1, A, a :: l, hl, nd, h => by
    obtain ⟨h1, h2⟩ := List.nodup_cons.mp nd
    refine List.mem_flatMap.mpr ⟨a, h a (.head _), List.mem_map.mpr ⟨l, mem_arr (Nat.succ.inj hl) h2 fun x hx => ?_, rfl⟩⟩
    exact (List.mem_erase_of_ne (fun e : x = a => h1 (by rw [← e]; exact hx))).mpr (h x (.tail _ hx))
/-- m (m - 1) ... , n of them -/
def fall : Nat → Nat → Nat
  | 0, _ => 1
  | n + 1, m => m * fall n (m - 1)
theorem arr_len : ∀ (n : Nat) (A : List Int), (arr n A).length = fall n A.length
  | 0, _ => rfl
  | n + 1, A => by
    unfold arr fall
    rw [List.length_flatMap]
    have : ∀ L : List Int, (∀ a ∈ L, a ∈ A) → (L.map fun a => ((arr n (A.erase a)).map (a :: ·)).length).sum = L.length * fall n (A.length - 1) := by
      intro L
      induction L with
      | nil => exact fun _ => (Nat.zero_mul _).symm
      | cons a L ih =>
        intro h
        rw [List.map_cons, List.sum_cons, ih fun x hx => h x (.tail _ hx), List.length_map, arr_len n, List.length_erase_of_mem (h a (.head _)), List.length_cons, Nat.succ_mul, Nat.add_comm]
    exact this A fun _ h => h
theorem fall_le {n m a b : Nat} (h : n ≤ m) (hb : a ≤ b) (p : m ≤ a) : fall n a ≤ fall m b := by
  induction m generalizing n a b with
  | zero =>
    obtain rfl : n = 0 := by omega
    exact Nat.le_refl _
  | succ m ih =>
    cases n with
    | zero =>
      have : 1 ≤ fall m (b - 1) := ih (n := 0) (a := a - 1) (by omega) (by omega) (by omega)
      exact Nat.mul_pos (by omega : 0 < b) this
    | succ n => exact Nat.mul_le_mul hb (ih (by omega) (by omega) (by omega))
/-- rows of so few can't all be different -/
theorem round_in {R : List (List Int)} {s row : List Int} {n : Nat} {A : List Int} {t m : Nat} (h : ∀ i, t ≤ i → (rowT R s row i).length = n ∧ (rowT R s row i).Nodup ∧ ∀ x ∈ rowT R s row i, x ∈ A) (hm : t + fall n A.length ≤ m) : Round R s row m := by
  by_cases c : ((List.range (fall n A.length + 1)).map fun i => rowT R s row (t + i)).Nodup
  · have := sub_len c (k := arr n A) fun x hx => by
      obtain ⟨i, _, rfl⟩ := List.mem_map.mp hx
      obtain ⟨h1, h2, h3⟩ := h (t + i) (by omega)
      exact mem_arr h1 h2 h3
    rw [List.length_map, List.length_range, arr_len] at this
    omega
  · by_cases g : ∃ i j, i < j ∧ j < fall n A.length + 1 ∧ rowT R s row (t + i) = rowT R s row (t + j)
    · obtain ⟨i, j, h1, h2, e⟩ := g
      exact ⟨t + i, t + j, by omega, by omega, e⟩
    · exfalso
      apply c
      rw [List.nodup_iff_pairwise_ne, List.pairwise_map]
      refine List.pairwise_iff_getElem.mpr fun i j hi hj hij z => ?_
      rw [List.getElem_range, List.getElem_range] at z
      rw [List.length_range] at hj
      exact g ⟨i, j, hij, hj, z⟩

/-! ### hits only -/
theorem acc_hit_perm {R : List (List Int)} {n : Nat} (hR : RuleOk R n) {row : List Int} (hl : row.length = n) (nd : row.Nodup) {b : Int} (hb : b ∈ row) : (accI R row b).Perm row := by
  unfold accI
  rw [if_pos hb]
  obtain ⟨h1, h2⟩ := hR.row (i := row.idxOf b) (by rw [← hl]; exact List.idxOf_lt_length_of_mem hb)
  exact mov_perm h1 (h2.trans hl.symm) nd
theorem hits_only {R : List (List Int)} {n : Nat} (hR : RuleOk R n) : ∀ (s row : List Int), row.length = n → row.Nodup → (∀ b ∈ s, b ∈ row) → outI R row s = List.replicate s.length true ∧ (rowI R row s).Perm row
  | [], _, _, _, _ => ⟨rfl, .refl _⟩
  | b :: s, row, hl, nd, h => by
    have hb := h b (.head _)
    have hp := acc_hit_perm hR hl nd hb
    obtain ⟨h1, h2⟩ := hits_only hR s (accI R row b) (hp.length_eq.trans hl) (hp.nodup_iff.mpr nd) fun x hx => hp.mem_iff.mpr (h x (.tail _ hx))
    refine ⟨?_, h2.trans hp⟩
    show decide (b ∈ row) :: outI R (accI R row b) s = _
    rw [h1, decide_eq_true hb]
    rfl
theorem rowT_perm {R : List (List Int)} {n : Nat} (hR : RuleOk R n) {s row : List Int} (hl : row.length = n) (nd : row.Nodup) (h : ∀ b ∈ s, b ∈ row) : ∀ t, (rowT R s row t).Perm row
  | 0 => .refl _
  | t + 1 => by
    have ih := rowT_perm hR hl nd h t
    exact (hits_only hR s (rowT R s row t) (ih.length_eq.trans hl) (ih.nodup_iff.mpr nd) fun x hx => ih.mem_iff.mpr (h x hx)).2.trans ih
theorem cntT_hits {R : List (List Int)} {n : Nat} (hR : RuleOk R n) {s row : List Int} (hl : row.length = n) (nd : row.Nodup) (h : ∀ b ∈ s, b ∈ row) (t : Nat) : cntT R s row t = s.length := by
  have ih := rowT_perm hR hl nd h t
  unfold cntT
  rw [(hits_only hR s (rowT R s row t) (ih.length_eq.trans hl) (ih.nodup_iff.mpr nd) fun x hx => ih.mem_iff.mpr (h x hx)).1, List.count_replicate_self]
theorem hitT_hits {R : List (List Int)} {n : Nat} (hR : RuleOk R n) {s row : List Int} (hl : row.length = n) (nd : row.Nodup) (h : ∀ b ∈ s, b ∈ row) : ∀ t : Nat, hitT R s row t = s.length * t
  | 0 => (Int.mul_zero _).symm
  | t + 1 => by
    show hitT R s row t + cntT R s row t = _
    rw [hitT_hits hR hl nd h t, cntT_hits hR hl nd h t, Int.natCast_add, Int.mul_add]
    show _ = _ + (s.length : Int) * 1
    rw [Int.mul_one]
theorem round_hits {R : List (List Int)} {n : Nat} (hR : RuleOk R n) (h6 : n ≤ 6) {s row : List Int} (hl : row.length = n) (nd : row.Nodup) (h : ∀ b ∈ s, b ∈ row) : Round R s row 720 :=
  round_in (n := n) (A := row) (t := 0) (fun i _ => by
    have hp := rowT_perm hR hl nd h i
    exact ⟨hp.length_eq.trans hl, hp.nodup_iff.mpr nd, fun x hx => hp.mem_iff.mp hx⟩) (by
    rw [hl, Nat.zero_add]
    have : n = 0 ∨ n = 1 ∨ n = 2 ∨ n = 3 ∨ n = 4 ∨ n = 5 ∨ n = 6 := by omega
    rcases this with rfl | rfl | rfl | rfl | rfl | rfl | rfl <;> decide)

/-! ### misses only -/
/-- block i of the stream is not among the n before it -/
def Miss (row s : List Int) : Prop := ∀ i, i < s.length → s.getD i 0 ∉ ((row ++ s).drop i).take row.length
theorem misses_only (R : List (List Int)) : ∀ (s row : List Int), 1 ≤ row.length → Miss row s → outI R row s = List.replicate s.length false ∧ rowI R row s = (row ++ s).drop s.length
  | [], row, _, _ => ⟨rfl, by show row = (row ++ []).drop 0; rw [List.append_nil]; rfl⟩
  | b :: s, row, h1, h => by
    have hb : b ∉ row := by
      have := h 0 (Nat.zero_lt_succ _)
      rw [List.drop_zero, List.take_left'] at this
      · exact this
      · rfl
    have e : accI R row b = row.drop 1 ++ [b] := by
      unfold accI
      rw [if_neg hb]
    have hl : (row.drop 1 ++ [b]).length = row.length := by
      rw [List.length_append, List.length_drop]
      simp only [List.length_cons, List.length_nil]
      omega
    have e2 : (row.drop 1 ++ [b]) ++ s = (row ++ b :: s).drop 1 := by
      cases row with
      | nil => simp at h1
      | cons c r => simp
    obtain ⟨i1, i2⟩ := misses_only R s (row.drop 1 ++ [b]) (by rw [hl]; exact h1) fun i hi => by
      have := h (i + 1) (Nat.succ_lt_succ hi)
      rw [hl, e2, List.drop_drop, Nat.add_comm 1 i]
      exact this
    constructor
    · show decide (b ∈ row) :: outI R (accI R row b) s = _
      rw [e, i1, decide_eq_false hb]
      rfl
    · show rowI R (accI R row b) s = _
      rw [e, i2, e2, List.drop_drop, Nat.add_comm]
      rfl
theorem miss_new {row s : List Int} (nd : s.Nodup) (h : ∀ b ∈ s, b ∉ row) : Miss row s := fun i hi z => by
  have m := List.mem_of_mem_take z
  have z2 : s.getD i 0 ∈ (row ++ s.take i) := by
    have hz : ((row ++ s).drop i).take row.length = (row ++ s.take i).drop i := by
      have e : row ++ s = (row ++ s.take i) ++ s.drop i := by rw [List.append_assoc, List.take_append_drop]
      rw [e, List.drop_append_of_le_length (by rw [List.length_append, List.length_take]; omega), List.take_append_of_le_length (by rw [List.length_drop, List.length_append, List.length_take]; omega), List.take_of_length_le (by rw [List.length_drop, List.length_append, List.length_take]; omega)]
    rw [hz] at z
    exact List.mem_of_mem_drop z
  rw [getD_lt hi] at z2
  rcases List.mem_append.mp z2 with m | m
  · exact h _ (List.getElem_mem hi) m
  · obtain ⟨j, hj, e⟩ := List.getElem_of_mem m
    rw [List.getElem_take] at e
    rw [List.length_take] at hj
    have := (List.getElem_inj nd).mp e
    omega
/-- the same misses again and again -/
theorem miss_same {s : List Int} (nd : s.Nodup) : Miss (s.drop 1) s := fun i hi z => by
  rw [List.length_drop] at z
  have hz : ((s.drop 1 ++ s).drop i).take (s.length - 1) = s.drop (i + 1) ++ s.take i := by
    have e : s.drop 1 ++ s = s.drop 1 ++ s.take i ++ s.drop i := by rw [List.append_assoc, List.take_append_drop]
    rw [e, List.append_assoc, List.drop_append_of_le_length (by rw [List.length_drop]; omega), List.drop_drop, Nat.add_comm 1 i, ← List.append_assoc, List.take_left' (by rw [List.length_append, List.length_drop, List.length_take]; omega)]
  rw [hz, getD_lt hi] at z
  rcases List.mem_append.mp z with m | m
  · obtain ⟨j, hj, e⟩ := List.getElem_of_mem m
    rw [List.getElem_drop] at e
    have := (List.getElem_inj nd).mp e
    omega
  · obtain ⟨j, hj, e⟩ := List.getElem_of_mem m
    rw [List.getElem_take] at e
    rw [List.length_take] at hj
    have := (List.getElem_inj nd).mp e
    omega
theorem rows_missed (R : List (List Int)) {s row : List Int} (h1 : 1 ≤ row.length) (hl : s.length = row.length + 1) (nd : s.Nodup) (h : ∀ b ∈ s, b ∉ row) : ∀ t, rowT R s row (t + 1) = s.drop 1 ∧ cntT R s row t = 0
  | 0 => by
    obtain ⟨a, b⟩ := misses_only R s row h1 (miss_new nd h)
    refine ⟨?_, ?_⟩
    · show rowI R row s = _
      rw [b, hl, List.drop_append, List.drop_of_length_le (by omega), Nat.add_sub_cancel_left]
      rfl
    · unfold cntT
      show ((List.count true (outI R row s) : Nat) : Int) = 0
      rw [a, List.count_replicate]
      rfl
  | t + 1 => by
    obtain ⟨ih, _⟩ := rows_missed R h1 hl nd h t
    obtain ⟨a, b⟩ := misses_only R s (s.drop 1) (by rw [List.length_drop]; omega) (miss_same nd)
    refine ⟨?_, ?_⟩
    · show rowI R (rowT R s row (t + 1)) s = _
      rw [ih, b, List.drop_append, List.drop_of_length_le (by rw [List.length_drop]; omega), List.length_drop, show s.length - (s.length - 1) = 1 by omega]
      rfl
    · unfold cntT
      rw [ih, a, List.count_replicate]
      rfl
theorem hits_missed (R : List (List Int)) {s row : List Int} (h1 : 1 ≤ row.length) (hl : s.length = row.length + 1) (nd : s.Nodup) (h : ∀ b ∈ s, b ∉ row) : ∀ t, hitT R s row t = 0
  | 0 => rfl
  | t + 1 => by
    show hitT R s row t + cntT R s row t = 0
    rw [hits_missed R h1 hl nd h t, (rows_missed R h1 hl nd h t).2]
    rfl
theorem per_missed (R : List (List Int)) {s row : List Int} (h1 : 1 ≤ row.length) (hl : s.length = row.length + 1) (nd : s.Nodup) (h : ∀ b ∈ s, b ∉ row) : Per R s row 1 2 := by
  refine ⟨by decide, by rw [(rows_missed R h1 hl nd h 0).1, (rows_missed R h1 hl nd h 1).1], ?_⟩
  show [rowT R s row 0, rowT R s row 1].Nodup
  refine List.nodup_cons.mpr ⟨fun z => ?_, List.nodup_cons.mpr ⟨fun z => (nomatch z), List.nodup_nil⟩⟩
  have e := List.mem_singleton.mp z
  rw [(rows_missed R h1 hl nd h 0).1] at e
  have e : row = s.drop 1 := e
  have hm : s[1]'(by omega) ∈ s.drop 1 := List.mem_drop_iff_getElem.mpr ⟨0, by omega, rfl⟩
  rw [← e] at hm
  exact h _ (List.getElem_mem _) hm

theorem Per.uniq {R : List (List Int)} {s row : List Int} {f m f' m' : Nat} (h : Per R s row f m) (h' : Per R s row f' m') : f = f' ∧ m = m' := by
  have no : ∀ {f m m' : Nat}, Per R s row f m → (rowsT R s row m').Nodup → m < m' → False := fun {f m m'} h nd hlt => by
    have hp := List.nodup_iff_pairwise_ne.mp nd
    unfold rowsT at hp
    rw [List.pairwise_map] at hp
    have hf := h.lt
    have := List.pairwise_iff_getElem.mp hp f m (by rw [List.length_range]; omega) (by rw [List.length_range]; omega) hf
    rw [List.getElem_range, List.getElem_range] at this
    exact this h.eq
  have em : m = m' := by
    rcases Nat.lt_trichotomy m m' with c | c | c
    · exact (no h h'.nd c).elim
    · exact c
    · exact (no h' h.nd c).elim
  subst em
  refine ⟨?_, rfl⟩
  have e := h.eq.trans h'.eq.symm
  have h1 := h.lt
  have h2 := h'.lt
  have hp := List.nodup_iff_pairwise_ne.mp h.nd
  unfold rowsT at hp
  rw [List.pairwise_map] at hp
  rcases Nat.lt_trichotomy f f' with c | c | c
  · have := List.pairwise_iff_getElem.mp hp f f' (by rw [List.length_range]; omega) (by rw [List.length_range]; omega) c
    rw [List.getElem_range, List.getElem_range] at this
    exact (this e).elim
  · exact c
  · have := List.pairwise_iff_getElem.mp hp f' f (by rw [List.length_range]; omega) (by rw [List.length_range]; omega) c
    rw [List.getElem_range, List.getElem_range] at this
    exact (this e.symm).elim
/-! ### new ones first, then hits -/
theorem hits_first {R : List (List Int)} {n : Nat} (hR : RuleOk R n) {a z row : List Int} (hl : row.length = n) (hrow : row.Nodup) (ha : a.length ≤ n) (nd : a.Nodup) (h : ∀ b ∈ a, b ∉ row) (hz : ∀ b ∈ z, b ∈ a) : (rowT R (a ++ z) row 1).Perm (row.drop a.length ++ a) ∧ cntT R (a ++ z) row 0 = z.length := by
  have h1 : 1 ≤ row.length := by have := hR.h1; omega
  obtain ⟨e1, e2⟩ := misses_only R a row h1 (miss_new nd h)
  have e3 : (row ++ a).drop a.length = row.drop a.length ++ a := List.drop_append_of_le_length (by omega)
  have app : ∀ (s row : List Int), outI R row (s ++ z) = outI R row s ++ outI R (rowI R row s) z ∧ rowI R row (s ++ z) = rowI R (rowI R row s) z := by
    intro s
    induction s with
    | nil => exact fun _ => ⟨rfl, rfl⟩
    | cons b s ih =>
      intro row
      obtain ⟨i1, i2⟩ := ih (accI R row b)
      exact ⟨congrArg (decide (b ∈ row) :: ·) i1, i2⟩
  obtain ⟨k1, k2⟩ := rowI_ok hR a row hl hrow
  obtain ⟨j1, j2⟩ := hits_only hR z (rowI R row a) k1 k2 fun b hb => by
    rw [e2, e3]
    exact List.mem_append_right _ (hz b hb)
  obtain ⟨g1, g2⟩ := app a row
  constructor
  · show (rowI R row (a ++ z)).Perm _
    rw [g2, ← e3, ← e2]
    exact j2
  · unfold cntT
    show ((List.count true (outI R row (a ++ z)) : Nat) : Int) = _
    rw [g1, e1, j1, List.count_append, List.count_replicate, List.count_replicate_self]
    show ((0 + z.length : Nat) : Int) = _
    rw [Nat.zero_add]
structure Firsts (R : List (List Int)) (n : Nat) (a z row : List Int) : Prop where
  hR : RuleOk R n
  hl : row.length = n
  nd : row.Nodup
  a1 : 1 ≤ a.length
  ha : a.length ≤ n
  an : a.Nodup
  h : ∀ b ∈ a, b ∉ row
  hz : ∀ b ∈ z, b ∈ a
theorem Firsts.one {R : List (List Int)} {n : Nat} {a z row : List Int} (f : Firsts R n a z row) : (rowT R (a ++ z) row 1).length = n ∧ (rowT R (a ++ z) row 1).Nodup ∧ ∀ b ∈ a ++ z, b ∈ rowT R (a ++ z) row 1 := by
  obtain ⟨h1, h2⟩ := rowI_ok f.hR (a ++ z) row f.hl f.nd
  refine ⟨h1, h2, fun b hb => (hits_first f.hR f.hl f.nd f.ha f.an f.h f.hz).1.mem_iff.mpr (List.mem_append_right _ ?_)⟩
  rcases List.mem_append.mp hb with m | m
  · exact m
  · exact f.hz b m
theorem Firsts.row {R : List (List Int)} {n : Nat} {a z row : List Int} (f : Firsts R n a z row) (t : Nat) : (rowT R (a ++ z) row (t + 1)).Perm (row.drop a.length ++ a) := by
  obtain ⟨h1, h2, h3⟩ := f.one
  rw [Nat.add_comm t 1, rowT_add]
  exact (rowT_perm f.hR h1 h2 h3 t).trans (hits_first f.hR f.hl f.nd f.ha f.an f.h f.hz).1
theorem Firsts.hits {R : List (List Int)} {n : Nat} {a z row : List Int} (f : Firsts R n a z row) (t : Nat) : hitT R (a ++ z) row (t + 1) = z.length + (a.length + z.length) * t := by
  obtain ⟨h1, h2, h3⟩ := f.one
  rw [Nat.add_comm t 1, hitT_add, hitT_hits f.hR h1 h2 h3 t]
  show 0 + cntT R (a ++ z) row 0 + _ = _
  rw [Int.zero_add, (hits_first f.hR f.hl f.nd f.ha f.an f.h f.hz).2, List.length_append, Int.natCast_add]
theorem Firsts.round {R : List (List Int)} {n : Nat} {a z row : List Int} (f : Firsts R n a z row) (h6 : n ≤ 6) : Round R (a ++ z) row 1000 := by
  obtain ⟨h1, h2, h3⟩ := f.one
  obtain ⟨i, j, hij, hj, e⟩ := round_hits f.hR h6 h1 h2 h3
  rw [← rowT_add, ← rowT_add] at e
  exact ⟨1 + i, 1 + j, by omega, by omega, e⟩
theorem Firsts.per {R : List (List Int)} {n : Nat} {a z row : List Int} (f : Firsts R n a z row) {i m : Nat} (p : Per R (a ++ z) row i m) : 1 ≤ i := by
  cases i with
  | succ i => exact Nat.succ_le_succ (Nat.zero_le _)
  | zero =>
    exfalso
    have hlt := p.lt
    have e := p.eq
    obtain ⟨m, rfl⟩ : ∃ k, m = k + 1 := ⟨m - 1, by omega⟩
    have hp := f.row m
    rw [← e] at hp
    have ha1 := f.a1
    have hm : a[0]'(by omega) ∈ row := hp.mem_iff.mpr (List.mem_append_right _ (List.getElem_mem _))
    exact f.h _ (List.getElem_mem _) hm
end DL

/-! DA: xs[i] += e, xs a cell. -/
namespace DL
open PySem PySem.Spec PyProof.Rows L2

def rGetL (K : PySem.W.Frag) : V → V → Hp → VK → Prop := fun x y H Q => ∃ p xs i v, x = .ref p ∧ y = .int i ∧ 0 ≤ i ∧ SqL K H p xs ∧ atI xs i = some v ∧ Q v H
theorem get_list {X : Cx} : PGet X (rGetL X.K) := by
  intro pins s σ H o i ov iv Q I ro ri h
  obtain ⟨p, xs, k, z, rfl, rfl, h0, hq, he, q⟩ := h
  cases ro
  obtain ⟨t, rfl⟩ := ri
  obtain ⟨its, r, pl, hz⟩ := I.list hq
  obtain ⟨j, h1, h2, h3, h4, h5⟩ := atI_get he
  obtain ⟨w, ew, rw'⟩ := r.get h2
  have hl := r.length
  have hn := line63
  have fin : EP X pins σ Q w s := ⟨z, H, I, rw', q⟩
  have hj : k.toNat = j := by
    rw [seqIndex_of h0 h5] at h1
    exact Option.some.inj h1
  exact wpAny_getItem_list pl.isList h0 (by omega) (by rw [hj]; simpa using ew) fin
theorem kGetL {X : Cx} (K : PySem.W.Frag) (h : X.K = K := by rfl) : PGet X (rGetL K) := h ▸ get_list
theorem s_augS {K : PySem.W.Frag} {Γ : Env} {S : Sto} {N : DEnds} {to ti te : TE} {f : Int → Int → Int} (h : dE K to Γ S fun o S1 => dE K ti Γ S1 fun i S2 => ∃ a xs k n, o = .r a ∧ i = .d (.int k) ∧ 0 ≤ k ∧ (a, Ce.lst xs) ∈ S2 ∧ atI xs k = some (.d (.int n)) ∧ dE K te Γ S2 fun y S3 => ∃ m xs' j S4, y = .d (.int m) ∧ ixN xs'.length k = some j ∧ Upd S3 a (.lst xs') (.lst (xs'.set j (.d (.int (f n m))))) S4 ∧ N.nx Γ S4) : dS K (tAugS to ti te (rGetL K) (ipI f) rSetL) N Γ S := fun σ F H s c D o =>
  h σ F H s c _ fun v1 F1 H1 x1 S1 e1 c1 o1 h1 => h1 σ F1 H1 (s.mono e1) c1 _ fun v2 F2 H2 x2 S2 e2 c2 o2 ⟨a, xs, k, n, ea, ei, k0, hm, hz, h2⟩ => by
    subst ea
    subst ei
    cases o2
    obtain ⟨p', vs, ep, hs3, r3⟩ := (Lst.r hm : Lst S2 (.r a) xs).at_ c2 (o1.mono e2)
    cases o1
    cases ep
    obtain ⟨w, e4, r⟩ := atI_p r3 hz
    cases r
    refine ⟨a, vs, k, _, rfl, rfl, k0, hs3, e4, ?_⟩
    exact h2 σ F2 H2 (s.mono (e1.trans e2)) c2 _ fun v3 F3 H3 y S3 e3 c3 o3 ⟨m, xs', j, S4, ey, hj, u, q⟩ => by
      subst ey
      cases o3
      refine ⟨n, m, rfl, rfl, ?_⟩
      obtain ⟨vs', e5, r5⟩ := c3.ok _ u.mem
      refine ⟨a, vs', k, j, rfl, rfl, e5, by rw [← plen r5]; exact hj, ?_⟩
      exact o.nx _ F3 _ _ S4 (e1.trans (e2.trans e3)) (s.mono (e1.trans (e2.trans e3))) (c3.updL u (pset (okD (.int _)) j r5)) q
end DL

/-! DV: frozen values: what is made is data at once; lists of which only a word is known. -/
namespace DL
open PySem PySem.Spec PyProof.Rows L2

/-! ### a list of which only a word is known -/
section
variable {K : PySem.W.Frag} {F F' H H' : Hp} {S S' : Sto} {Γ : Env} {x y z : Va} {v : V} {Q : QE} {te ta tb tc : TE} {N : DEnds} {t : TS}
theorem Cf.re (c : Cf K S F H) {a : Addr} {c0 c1 : Ce} (u : Upd S a c0 c1 S') (h : CeOk K F H a c1) : Cf K S' F H := by
  have fa : F a = none := c.fr _ u.mem
  refine ⟨c.ex, by rw [u.keys]; exact c.nd, fun q hq => ?_, fun q hq => ?_⟩
  · rcases u.back c.nd hq with rfl | ⟨_, m⟩
    · exact fa
    · exact c.fr q m
  · rcases u.back c.nd hq with rfl | ⟨n, m⟩
    · exact h
    · exact c.ok q m
/-- it is opened, and shut at the end -/
theorem s_opn {A B : Sto} {p : Addr} {φ : List Va → Prop} (h : ∀ xs, φ xs → dS K t { nx := fun Γ' S1 => ∃ ys, φ ys ∧ S1 = A ++ (p, .lst ys) :: B ∧ N.nx Γ' (A ++ (p, .prd φ) :: B), rt := fun x S1 => ∃ ys, φ ys ∧ S1 = A ++ (p, .lst ys) :: B ∧ N.rt x (A ++ (p, .prd φ) :: B) } Γ (A ++ (p, .lst xs) :: B)) : dS K t N Γ (A ++ (p, .prd φ) :: B) := fun σ F H s c D o => by
  obtain ⟨xs, vs, hf, e, r⟩ := c.ok _ (mem_mid : (p, Ce.prd φ) ∈ A ++ (p, .prd φ) :: B)
  refine h xs hf σ F H s (c.re (upd_mid : Upd _ p (.prd φ) (.lst xs) _) ⟨vs, e, r⟩) D ⟨?_, ?_, fun _ _ _ _ _ _ _ _ z => z.elim, fun _ _ _ _ _ _ _ _ z => z.elim⟩
  · rintro σ' F2 H2 Γ2 S2 e2 s2 c2 ⟨ys, hy, rfl, q⟩
    exact o.nx σ' F2 H2 Γ2 _ e2 s2 (c2.re (upd_mid : Upd _ p (.lst ys) (.prd φ) _) (by obtain ⟨ws, e3, r3⟩ := c2.ok _ (mem_mid : (p, Ce.lst ys) ∈ A ++ (p, .lst ys) :: B); exact ⟨ys, ws, hy, e3, r3⟩)) q
  · rintro w F2 H2 x S2 e2 c2 o2 ⟨ys, hy, rfl, q⟩
    exact o.rt w F2 H2 x _ e2 (c2.re (upd_mid : Upd _ p (.lst ys) (.prd φ) _) (by obtain ⟨ws, e3, r3⟩ := c2.ok _ (mem_mid : (p, Ce.lst ys) ∈ A ++ (p, .lst ys) :: B); exact ⟨ys, ws, hy, e3, r3⟩)) o2 q
/-- it is shut -/
theorem d_shut (h : dE K te Γ S fun x S1 => ∃ p ys φ S2, φ ys ∧ Upd S1 p (.lst ys) (.prd φ) S2 ∧ Q x S2) : dE K te Γ S Q := fun σ F H s c Q' p =>
  h σ F H s c _ fun v F1 H1 x S1 e1 c1 o1 ⟨a, ys, φ, S2, hy, u, q⟩ => p v F1 H1 x S2 e1 (c1.re u (by obtain ⟨ws, e3, r3⟩ := c1.ok _ u.mem; exact ⟨ys, ws, hy, e3, r3⟩)) o1 q
theorem dA.imp {t : TA} {S : Sto} {Q1 Q2 : List Va → Sto → Prop} (h : dA K t Γ S Q1) (i : ∀ x S', Q1 x S' → Q2 x S') : dA K t Γ S Q2 := fun σ F H s c Q' p => h σ F H s c Q' fun v F1 H1 x S1 e c1 o q => p v F1 H1 x S1 e c1 o (i x S1 q)
theorem dRg.imp {t : L2.St → Hp → (Int → Int → Hp → Prop) → Prop} {Q1 Q2 : Int → Int → Sto → Prop} (h : dRg K t Γ S Q1) (i : ∀ a b S', Q1 a b S' → Q2 a b S') : dRg K t Γ S Q2 := fun σ F H s c Q' p => h σ F H s c Q' fun a b F1 H1 S1 e c1 q => p a b F1 H1 S1 e c1 (i a b S1 q)
/-! ### results frozen -/
theorem rL_frz {r : List V → Hp → VK → Prop} {xs : List Va} (h : dRL K r xs S fun x S' => ∃ d S2, Frz x S' d S2 ∧ Q (.d d) S2) : dRL K r xs S Q := fun vs F H c o Q' p =>
  h vs F H c o _ fun v F1 H1 x S1 e1 c1 o1 ⟨d, S2, z, q⟩ => by
    obtain ⟨F2, e2, c2, o2⟩ := z.ok c1 o1
    exact p v F2 H1 _ S2 (e1.trans e2) c2 o2 q
theorem r1_frz {r : V → Hp → VK → Prop} (h : dR1 K r x S fun x S' => ∃ d S2, Frz x S' d S2 ∧ Q (.d d) S2) : dR1 K r x S Q := fun w F H c o Q' p =>
  h w F H c o _ fun v F1 H1 x S1 e1 c1 o1 ⟨d, S2, z, q⟩ => by
    obtain ⟨F2, e2, c2, o2⟩ := z.ok c1 o1
    exact p v F2 H1 _ S2 (e1.trans e2) c2 o2 q
theorem r2_frz {r : R2} (h : dR2 K r x y S fun x S' => ∃ d S2, Frz x S' d S2 ∧ Q (.d d) S2) : dR2 K r x y S Q := fun w u F H c o o' Q' p =>
  h w u F H c o o' _ fun v F1 H1 x S1 e1 c1 o1 ⟨d, S2, z, q⟩ => by
    obtain ⟨F2, e2, c2, o2⟩ := z.ok c1 o1
    exact p v F2 H1 _ S2 (e1.trans e2) c2 o2 q
/-! ### displays -/
theorem v_lst {t : TA} (h : dA K t Γ S fun xs S1 => ∃ ds : List PyData, xs = ds.map .d ∧ ds.length ≤ 100 ∧ Q (.d (.list ds)) S1) : dE K (tLst t) Γ S Q :=
  d_frz (d_lst (h.imp fun xs S1 ⟨ds, e, hz, q⟩ => ⟨by rw [e, List.length_map]; exact sz_le (by omega), fun a => ⟨_, _, by rw [e]; exact .l, q⟩⟩))
theorem v_tup {t : TA} (h : dA K t Γ S fun xs S1 => ∃ ds : List PyData, xs = ds.map .d ∧ ds.length ≤ 100 ∧ Q (.d (.tuple ds)) S1) : dE K (tTup t) Γ S Q :=
  d_frz (d_tup (h.imp fun xs S1 ⟨ds, e, hz, q⟩ => ⟨by rw [e, List.length_map]; exact sz_le (by omega), fun a => ⟨_, _, by rw [e]; exact .t, q⟩⟩))
theorem Cf.frzX {a : Addr} {xs : List Va} (c : Cf K ((a, .lst xs) :: S) F H) : ∃ vs, H a = some (.lst vs) ∧ Same F (upd F a (.lst vs)) ∧ Cf K S (upd F a (.lst vs)) H ∧ Paired (VaOk K F) xs vs := by
  obtain ⟨vs, e, h⟩ := c.ok _ List.mem_cons_self
  have fa : F a = none := c.fr _ List.mem_cons_self
  have s1 : Same F (upd F a (.lst vs)) := same_new fa
  have nd := List.nodup_cons.mp c.nd
  refine ⟨vs, e, s1, ⟨same_in c.ex e, nd.2, fun p hp => ?_, fun p hp => (c.ok p (List.mem_cons_of_mem _ hp)).freeze s1⟩, h⟩
  rw [upd_ne (fun z => nd.1 (by show a ∈ _; rw [← z]; exact List.mem_map_of_mem hp))]
  exact c.fr p (List.mem_cons_of_mem _ hp)
/-- [..] * k -/
theorem v_rep {t : TA} (h : dA K t Γ S fun xs S1 => ∃ ds : List PyData, xs = ds.map .d ∧ ds.length ≤ 100 ∧ dE K tb Γ S1 fun y S2 => ∃ k : Int, y = .d (.int k) ∧ -(2 ^ 63) ≤ k ∧ k < 2 ^ 63 ∧ ds.length * k.toNat ≤ 100000 ∧ Q (.d (.list (List.replicate k.toNat ds).flatten)) S2) : dE K (tOp rRep (tLst t) tb) Γ S Q := by
  intro σ F H s c Q' p
  refine h σ F H s c _ fun vs F1 H1 xs S1 e1 c1 o1 ⟨ds, ex, hz, h2⟩ => ?_
  subst ex
  refine ⟨by rw [← plen o1, List.length_map]; exact sz_le (by omega), fun a ha => ?_⟩
  obtain ⟨ws, ew, e2, c3, r3⟩ := (c1.newL ha o1).frzX
  rw [upd_same] at ew
  obtain rfl : vs = ws := by
    have := Option.some.inj ew
    injection this
  refine h2 σ _ _ (s.mono (e1.trans e2)) c3 _ fun v F4 H4 y S4 e4 c4 o4 ⟨k, ey, k1, k2, k3, q⟩ => ?_
  subst ey
  cases o4
  have hF4 : F4 a = some (.lst vs) := e4 _ _ upd_same
  have hH4 : H4 a = some (.lst vs) := c4.ex _ _ hF4
  refine ⟨a, k, vs, rfl, rfl, hH4, k1, k2, by rw [← plen r3, List.length_map]; exact sz_le k3, fun l hl => ?_⟩
  have r4 : Paired (VaOk K F4) (List.replicate k.toNat (ds.map Va.d)).flatten (List.replicate k.toNat vs).flatten := pfl (vas_mono (e2.trans e4) r3) _
  have ed : (List.replicate k.toNat (ds.map Va.d)).flatten = ((List.replicate k.toNat ds).flatten).map Va.d := by
    rw [List.map_flatten, List.map_replicate]
  rw [ed] at r4
  obtain ⟨F5, e5, c5, a5⟩ := (c4.newL hl r4).frzL
  exact p _ F5 _ (.d _) _ ((e1.trans e2).trans (e4.trans e5)) c5 (okD a5) q
/-! ### by data -/
theorem rgOk_of {a b : Int} (h0 : -100000 ≤ a) (h1 : b ≤ 100000) (h2 : a ≤ 100000) (h3 : -100000 ≤ b) : RgOk a b := ⟨by omega, by omega, by omega, by omega, by omega⟩
theorem v_list {ds : List PyData} (q : Q (.d (.list ds)) S) : dRL K (rListOf K) [.d (.list ds)] S Q := rL_frz (r_list (.d ds) fun p => ⟨_, _, .l, q⟩)
theorem v_listI {ns : List Int} (q : Q (.d (li ns)) S) : dRL K (rListOf K) [.d (li ns)] S Q := v_list q
theorem v_listT {ds : List PyData} (q : Q (.d (.list ds)) S) : dRL K (rListOf K) [.d (.tuple ds)] S Q := rL_frz (r_listT (.d ds) fun p => ⟨_, _, .l, q⟩)
theorem v_tuple {ds : List PyData} (q : Q (.d (.tuple ds)) S) : dRL K (rTupOf K) [.d (.list ds)] S Q := rL_frz (r_tuple (.d ds) fun p => ⟨_, _, .t, q⟩)
theorem v_listRg1 (h : dE K te Γ S fun x S1 => ∃ n : Int, x = .d (.int n) ∧ (-100000 ≤ n ∧ n ≤ 100000) ∧ Q (.d (li (rg n))) S1) : dE K (tLstRg (tRg1 te)) Γ S Q :=
  d_frz (d_listRg (rg_1 (h.imp fun x S1 ⟨n, e, ⟨hn, hn2⟩, q⟩ => ⟨n, e, rgOk_of (by omega) (by omega) (by omega) (by omega), fun p => ⟨_, _, by rw [rgA_vi]; exact frz_l (vi_map _) (.refl _), q⟩⟩)))
def rg2 (a b : Int) : List Int := (List.range (b - a).toNat).map fun (i : Nat) => a + (i : Int)
theorem rg2_vi (a b : Int) : rgA a b = vi (rg2 a b) := by
  unfold rgA vi rg2
  rw [List.map_map]
  rfl
theorem v_listRg2 (h : dE K ta Γ S fun x S1 => dE K tb Γ S1 fun y S2 => ∃ a b : Int, x = .d (.int a) ∧ y = .d (.int b) ∧ (-100000 ≤ a ∧ a ≤ 100000 ∧ -100000 ≤ b ∧ b ≤ 100000) ∧ Q (.d (li (rg2 a b))) S2) : dE K (tLstRg (tRg2 ta tb)) Γ S Q :=
  d_frz (d_listRg (rg_2 (h.imp fun x S1 h1 => h1.imp fun y S2 ⟨a, b, e1, e2, ⟨k1, k2, k3, k4⟩, q⟩ => ⟨a, b, e1, e2, rgOk_of (by omega) (by omega) (by omega) (by omega), fun p => ⟨_, _, by rw [rg2_vi]; exact frz_l (vi_map _) (.refl _), q⟩⟩)))
theorem v_lenI {ns : List Int} (q : Q (.d (.int (ns.length : Nat))) S) : dRL K (rLen K) [.d (li ns)] S Q := r_len (.d _) (by rw [List.length_map, List.length_map]; exact q)
theorem v_lenR {ns : List (List Int)} (q : Q (.d (.int (ns.length : Nat))) S) : dRL K (rLen K) [.d (lli ns)] S Q := r_len (.d _) (by rw [List.length_map, List.length_map]; exact q)
theorem v_len {ds : List PyData} (q : Q (.d (.int (ds.length : Nat))) S) : dRL K (rLen K) [.d (.list ds)] S Q := r_len (.d _) (by rw [List.length_map]; exact q)
theorem v_lenC {a : Addr} {xs : List Va} (m : (a, Ce.lst xs) ∈ S) (q : Q (.d (.int (xs.length : Nat))) S) : dRL K (rLen K) [.r a] S Q := r_len (.r m) q
theorem v_lenCI {a : Addr} {ns : List Int} (m : (a, Ce.lst (vi ns)) ∈ S) (q : Q (.d (.int (ns.length : Nat))) S) : dRL K (rLen K) [.r a] S Q := r_len (.r m) (by rw [vi_len]; exact q)
theorem v_ix {ds : List PyData} {i : Int} {d : PyData} (h0 : 0 ≤ i) (h : ds[i.toNat]? = some d) (q : Q (.d d) S) : dR2 K (rIxL K) (.d (.list ds)) (.d (.int i)) S Q := r_ix (.d ds) (atI_nat' h0 (by rw [List.getElem?_map, h]; rfl)) q
theorem v_ixT {ds : List PyData} {i : Int} {d : PyData} (h0 : 0 ≤ i) (h : ds[i.toNat]? = some d) (q : Q (.d d) S) : dR2 K (rIxT K) (.d (.tuple ds)) (.d (.int i)) S Q := r_ixT (.d ds) (atI_nat' h0 (by rw [List.getElem?_map, h]; rfl)) q
theorem v_ixI {ns : List Int} {i : Int} (h0 : 0 ≤ i) (h : i < (ns.length : Nat)) (q : Q (.d (.int (ns.getD i.toNat 0))) S) : dR2 K (rIxL K) (.d (li ns)) (.d (.int i)) S Q :=
  v_ix h0 (by rw [List.getElem?_map, List.getElem?_eq_getElem (by omega), getD_lt (by omega)]; rfl) q
theorem v_ixN {ns : List Int} {i : Nat} (h : i < ns.length) (q : Q (.d (.int (ns.getD i 0))) S) : dR2 K (rIxL K) (.d (li ns)) (.d (.int (i : Nat))) S Q := v_ixI (by omega) (by omega) (by rw [Int.toNat_natCast]; exact q)
theorem getD_ltR {xs : List (List Int)} {k : Nat} (h : k < xs.length) : xs.getD k [] = xs[k] := by
  rw [List.getD_eq_getElem?_getD, List.getElem?_eq_getElem h]
  rfl
theorem v_ixR {R : List (List Int)} {i : Int} (h0 : 0 ≤ i) (h : i < (R.length : Nat)) (q : Q (.d (li (R.getD i.toNat []))) S) : dR2 K (rIxL K) (.d (lli R)) (.d (.int i)) S Q :=
  v_ix h0 (by rw [List.getElem?_map, List.getElem?_eq_getElem (by omega), getD_ltR (by omega)]; rfl) q
theorem v_ixRN {R : List (List Int)} {i : Nat} (h : i < R.length) (q : Q (.d (li (R.getD i []))) S) : dR2 K (rIxL K) (.d (lli R)) (.d (.int (i : Nat))) S Q := v_ixR (by omega) (by omega) (by rw [Int.toNat_natCast]; exact q)
theorem v_last {ns : List Int} {n : Int} (q : Q (.d (.int n)) S) : dR2 K (rIxL K) (.d (li (ns ++ [n]))) (.d (.int (-1))) S Q := r_ix (liLst (.d _)) vi_last q
/-! slices -/
theorem cut_toA {xs : List Va} (n : Nat) : cutA xs none (some (n : Int)) = xs.take n := by
  unfold cutA
  rw [HT.sIx_none, HT.sIx_nat, List.drop_zero, Nat.sub_zero]
  by_cases h : n ≤ xs.length
  · rw [Nat.min_eq_left h]
  · rw [Nat.min_eq_right (by omega), List.take_of_length_le (Nat.le_refl _), List.take_of_length_le (by omega)]
theorem cut_midA {xs : List Va} (a b : Nat) : cutA xs (some (a : Int)) (some (b : Int)) = (xs.take b).drop a := by
  unfold cutA
  rw [HT.sIx_nat, HT.sIx_nat]
  refine List.ext_getElem? fun i => ?_
  rw [List.getElem?_take, List.getElem?_drop, List.getElem?_drop, List.getElem?_take]
  by_cases ha : a ≤ xs.length
  · rw [Nat.min_eq_left ha]
    by_cases hb : b ≤ xs.length
    · rw [Nat.min_eq_left hb]
      by_cases c : i < b - a
      · rw [if_pos c, if_pos (by omega)]
      · rw [if_neg c, if_neg (by omega)]
    · rw [Nat.min_eq_right (by omega)]
      by_cases c : i < xs.length - a
      · rw [if_pos c, if_pos (by omega)]
      · rw [if_neg c]
        split
        · rw [List.getElem?_eq_none (by omega)]
        · rfl
  · rw [Nat.min_eq_right (show xs.length ≤ a by omega)]
    have h0 : min b xs.length - xs.length = 0 := by have := Nat.min_le_right b xs.length; omega
    rw [h0, if_neg (by omega)]
    split
    · rw [List.getElem?_eq_none (by omega)]
    · rfl
theorem v_slTo {ds : List PyData} {k : Nat} (q : Q (.d (.list (ds.take k))) S) : dR1 K (fun v H Q => rSlL K v none (some (k : Int)) H Q) (.d (.list ds)) S Q := r1_frz (r_slice (.d ds) fun p => ⟨_, _, by rw [cut_toA]; exact frz_l List.map_take.symm (.refl _), q⟩)
theorem v_slFrom {ds : List PyData} {k : Nat} (q : Q (.d (.list (ds.drop k))) S) : dR1 K (fun v H Q => rSlL K v (some (k : Int)) none H Q) (.d (.list ds)) S Q := r1_frz (r_slice (.d ds) fun p => ⟨_, _, by rw [cut_from']; exact frz_l List.map_drop.symm (.refl _), q⟩)
theorem v_slMid {ds : List PyData} {a b : Nat} (q : Q (.d (.list ((ds.take b).drop a))) S) : dR1 K (fun v H Q => rSlL K v (some (a : Int)) (some (b : Int)) H Q) (.d (.list ds)) S Q := r1_frz (r_slice (.d ds) fun p => ⟨_, _, by rw [cut_midA]; exact frz_l (by rw [List.map_drop, List.map_take]) (.refl _), q⟩)
theorem v_slToI {ns : List Int} {k : Nat} (q : Q (.d (li (ns.take k))) S) : dR1 K (fun v H Q => rSlL K v none (some (k : Int)) H Q) (.d (li ns)) S Q := v_slTo (by rw [← List.map_take]; exact q)
theorem v_slFromI {ns : List Int} {k : Nat} (q : Q (.d (li (ns.drop k))) S) : dR1 K (fun v H Q => rSlL K v (some (k : Int)) none H Q) (.d (li ns)) S Q := v_slFrom (by rw [← List.map_drop]; exact q)
theorem v_slMidI {ns : List Int} {a b : Nat} (q : Q (.d (li ((ns.take b).drop a))) S) : dR1 K (fun v H Q => rSlL K v (some (a : Int)) (some (b : Int)) H Q) (.d (li ns)) S Q := v_slMid (by rw [← List.map_take, ← List.map_drop]; exact q)
theorem v_slToR {ns : List (List Int)} {k : Nat} (q : Q (.d (lli (ns.take k))) S) : dR1 K (fun v H Q => rSlL K v none (some (k : Int)) H Q) (.d (lli ns)) S Q := v_slTo (by rw [← List.map_take]; exact q)
theorem v_slFromR {ns : List (List Int)} {k : Nat} (q : Q (.d (lli (ns.drop k))) S) : dR1 K (fun v H Q => rSlL K v (some (k : Int)) none H Q) (.d (lli ns)) S Q := v_slFrom (by rw [← List.map_drop]; exact q)
theorem v_slToZ {ns : List Int} {i : Int} (h : 0 ≤ i) (q : Q (.d (li (ns.take i.toNat))) S) : dR1 K (fun v H Q => rSlL K v none (some i) H Q) (.d (li ns)) S Q := by
  obtain ⟨k, rfl⟩ : ∃ k : Nat, i = k := ⟨i.toNat, by omega⟩
  exact v_slToI q
theorem v_slFromZ {ns : List Int} {i : Int} (h : 0 ≤ i) (q : Q (.d (li (ns.drop i.toNat))) S) : dR1 K (fun v H Q => rSlL K v (some i) none H Q) (.d (li ns)) S Q := by
  obtain ⟨k, rfl⟩ : ∃ k : Nat, i = k := ⟨i.toNat, by omega⟩
  exact v_slFromI q
theorem v_slMidZ {ns : List Int} {i j : Int} (h : 0 ≤ i) (h2 : 0 ≤ j) (q : Q (.d (li ((ns.take j.toNat).drop i.toNat))) S) : dR1 K (fun v H Q => rSlL K v (some i) (some j) H Q) (.d (li ns)) S Q := by
  obtain ⟨k, rfl⟩ : ∃ k : Nat, i = k := ⟨i.toNat, by omega⟩
  obtain ⟨l, rfl⟩ : ∃ k : Nat, j = k := ⟨j.toNat, by omega⟩
  exact v_slMidI q
theorem v_slToRZ {ns : List (List Int)} {i : Int} (h : 0 ≤ i) (q : Q (.d (lli (ns.take i.toNat))) S) : dR1 K (fun v H Q => rSlL K v none (some i) H Q) (.d (lli ns)) S Q := by
  obtain ⟨k, rfl⟩ : ∃ k : Nat, i = k := ⟨i.toNat, by omega⟩
  exact v_slToR q
theorem v_slFromRZ {ns : List (List Int)} {i : Int} (h : 0 ≤ i) (q : Q (.d (lli (ns.drop i.toNat))) S) : dR1 K (fun v H Q => rSlL K v (some i) none H Q) (.d (lli ns)) S Q := by
  obtain ⟨k, rfl⟩ : ∃ k : Nat, i = k := ⟨i.toNat, by omega⟩
  exact v_slFromR q
/-! sums, orders -/
theorem v_cat {ds es : List PyData} (hz : ds.length + es.length ≤ 100000) (q : Q (.d (.list (ds ++ es))) S) : dR2 K (rCatL K) (.d (.list ds)) (.d (.list es)) S Q := r2_frz (r_cat (.d ds) (.d es) (by rw [List.length_map, List.length_map]; exact sz_le hz) fun p => ⟨_, _, frz_l List.map_append.symm (.refl _), q⟩)
theorem v_catI {ns ms : List Int} (hz : ns.length + ms.length ≤ 100000) (q : Q (.d (li (ns ++ ms))) S) : dR2 K (rCatL K) (.d (li ns)) (.d (li ms)) S Q := v_cat (by rw [List.length_map, List.length_map]; exact hz) (by rw [← List.map_append]; exact q)
theorem v_catR {ns ms : List (List Int)} (hz : ns.length + ms.length ≤ 100000) (q : Q (.d (lli (ns ++ ms))) S) : dR2 K (rCatL K) (.d (lli ns)) (.d (lli ms)) S Q := v_cat (by rw [List.length_map, List.length_map]; exact hz) (by rw [← List.map_append]; exact q)
theorem v_sorted {ns : List Int} (hz : ns.length < 64) (q : ∀ ns' : List Int, ns'.Perm ns → ns'.Pairwise (· ≤ ·) → Q (.d (li ns')) S) : dRL K (rSorted K) [.d (li ns)] S Q := rL_frz (r_sorted (.d _) hz fun ns' p h1 h2 => ⟨_, _, frz_l (vi_map ns') (.refl _), q ns' h1 h2⟩)
theorem v_eqI {a b : Int} (q : Q (.d (.bool (decide (a = b)))) S) : dR2 K (rEqD K) (.d (.int a)) (.d (.int b)) S Q := r_eqD (.d _) (.d _) rfl rfl (by rw [eqv_int]; exact q)
theorem v_neI {a b : Int} (q : Q (.d (.bool (!decide (a = b)))) S) : dR2 K (rNeD K) (.d (.int a)) (.d (.int b)) S Q := r_neD (.d _) (.d _) rfl rfl (by rw [eqv_int]; exact q)
theorem v_eqL {a b : List Int} (q : Q (.d (.bool (decide (a = b)))) S) : dR2 K (rEqD K) (.d (li a)) (.d (li b)) S Q := r_eqD (.d _) (.d _) (shaped_li _) (shaped_li _) (by rw [eqv_li]; exact q)
theorem v_neL {a b : List Int} (q : Q (.d (.bool (!decide (a = b)))) S) : dR2 K (rNeD K) (.d (li a)) (.d (li b)) S Q := r_neD (.d _) (.d _) (shaped_li _) (shaped_li _) (by rw [eqv_li]; exact q)
theorem v_eqR {a b : List (List Int)} (q : Q (.d (.bool (decide (a = b)))) S) : dR2 K (rEqD K) (.d (lli a)) (.d (lli b)) S Q := r_eqD (.d _) (.d _) (shaped_lli _) (shaped_lli _) (by rw [eqv_lli]; exact q)
theorem v_neR {a b : List (List Int)} (q : Q (.d (.bool (!decide (a = b)))) S) : dR2 K (rNeD K) (.d (lli a)) (.d (lli b)) S Q := r_neD (.d _) (.d _) (shaped_lli _) (shaped_lli _) (by rw [eqv_lli]; exact q)
theorem v_neNil {x : Va} {ns : List Int} (h : Lst S x (vi ns)) (q : Q (.d (.bool (!decide (ns = [])))) S) : dR2 K (rNeD K) x (.d (.list [])) S Q := r_neD (sees_vi h) (.d (li [])) (shaped_li _) (shaped_li []) (by rw [eqv_li]; exact q)
theorem v_eqNil {x : Va} {ns : List Int} (h : Lst S x (vi ns)) (q : Q (.d (.bool (decide (ns = [])))) S) : dR2 K (rEqD K) x (.d (.list [])) S Q := r_eqD (sees_vi h) (.d (li [])) (shaped_li _) (shaped_li []) (by rw [eqv_li]; exact q)
theorem v_neNilD {ns : List Int} (q : Q (.d (.bool (!decide (ns = [])))) S) : dR2 K (rNeD K) (.d (li ns)) (.d (.list [])) S Q := v_neNil (liLst (.d _)) q
theorem v_eqNilD {ns : List Int} (q : Q (.d (.bool (decide (ns = [])))) S) : dR2 K (rEqD K) (.d (li ns)) (.d (.list [])) S Q := v_eqNil (liLst (.d _)) q
/-- the first cells of the script, or one zero -/
theorem v_cells {m : Int} {tm : TE} {ns : List Int} (h0 : Γ[0]? = some (some (.d (li ns)))) (hm : ∀ (S : Sto) (Q : QE), Q (.d (.int m)) S → dE K tm Γ S Q) (h1 : 1 ≤ m) (h2 : m ≤ 60) (q : ∀ cs : List Int, (cs.length : Int) ≤ m → Q (.d (li cs)) S) :
    dE K (tOp (rCatL K) (tSl (rSlL K) (tVar 0) tNoPart (tPart tm)) (tOp rRep (tLst (tCons (tC (.int 0)) tNil)) (tCB rInt1 (tCons (tOp (rEqD K) (tVar 0) (tLst tNil)) tNil)))) Γ S Q := by
  refine d_op (d_slice (d_var h0 (o_none (o_some (hm _ _ ⟨_, rfl, v_slToZ (by omega) ?_⟩)))))
  refine v_rep (d_acons (d_int (d_anil ⟨[.int 0], rfl, Nat.le_of_ble_eq_true rfl, ?_⟩)))
  refine d_cb (d_acons (d_op (d_var h0 (v_lst (d_anil ⟨[], rfl, Nat.le_of_ble_eq_true rfl, v_eqNilD (d_anil (r_int1b ⟨_, rfl, ?_⟩))⟩)))))
  have lt : (ns.take m.toNat).length ≤ m.toNat := by rw [List.length_take]; omega
  have key : ∀ e : Int, (e = 0 ∨ (e = 1 ∧ ns = [])) → -(2 ^ 63) ≤ e ∧ e < 2 ^ 63 ∧ ([PyData.int 0]).length * e.toNat ≤ 100000 ∧ dR2 K (rCatL K) (.d (li (ns.take m.toNat))) (.d (.list (List.replicate e.toNat [PyData.int 0]).flatten)) S Q := fun e he => by
    have e4 : (List.replicate e.toNat [PyData.int 0]).flatten = (List.replicate e.toNat (0 : Int)).map .int := by
      rw [List.flatten_replicate_singleton, List.map_replicate]
    rw [e4]
    refine ⟨by omega, by omega, by show 1 * e.toNat ≤ 100000; omega, v_catI (ms := List.replicate e.toNat 0) (by rw [List.length_replicate]; omega) (q _ ?_)⟩
    rw [List.length_append, List.length_replicate]
    rcases he with rfl | ⟨rfl, rfl⟩
    · simp only [Int.toNat_zero]
      omega
    · simp only [List.take_nil, List.length_nil]
      show ((0 + 1 : Nat) : Int) ≤ m
      omega
  by_cases c : ns = []
  · rw [decide_eq_true c]
    exact key 1 (.inr ⟨rfl, c⟩)
  · rw [decide_eq_false c]
    exact key 0 (.inl rfl)
/-- data of a kind whose equality is that of the things meant -/
theorem eqv_self {d : PyData} (h : SeqAt.shaped d = true) : PyData.eqv d d = true := by
  refine SeqAt.eqv_refl _ ?_
  unfold SeqAt.shaped at h
  rw [Bool.and_eq_true] at h
  exact h.1
theorem v_eqSame {d : PyData} (h : SeqAt.shaped d = true) (q : Q (.d (.bool true)) S) : dR2 K (rEqD K) (.d d) (.d d) S Q := r_eqD (.d _) (.d _) h h (by rw [eqv_self h]; exact q)
theorem v_neSame {d : PyData} (h : SeqAt.shaped d = true) (q : Q (.d (.bool false)) S) : dR2 K (rNeD K) (.d d) (.d d) S Q := r_neD (.d _) (.d _) h h (by rw [eqv_self h]; exact q)
theorem v_inI {ns : List Int} {b : Int} (q : Q (.d (.bool (decide (b ∈ ns)))) S) : dR2 K (rIn K false) (.d (.int b)) (.d (li ns)) S Q := r_inI (liLst (.d _)) q
theorem v_notInI {ns : List Int} {b : Int} (q : Q (.d (.bool (!decide (b ∈ ns)))) S) : dR2 K (rIn K true) (.d (.int b)) (.d (li ns)) S Q := r_notInI (liLst (.d _)) q
theorem v_inR {rows : List (List Int)} {r : List Int} (q : Q (.d (.bool (decide (r ∈ rows)))) S) : dR2 K (rInD K) (.d (li r)) (.d (lli rows)) S Q := r_inD (.d _) (.d _) (shaped_li _) (shaped_lli _) (by rw [any_rowsI]; exact q)
theorem v_inRC {x : Va} {rows : List (List Int)} {r : List Int} (h : Sees S x (lli rows)) (q : Q (.d (.bool (decide (r ∈ rows)))) S) : dR2 K (rInD K) (.d (li r)) x S Q := r_inD (.d _) h (shaped_li _) (shaped_lli _) (by rw [any_rowsI]; exact q)
theorem v_notInR {rows : List (List Int)} {r : List Int} (q : Q (.d (.bool (!decide (r ∈ rows)))) S) : dR2 K (rNotInD K) (.d (li r)) (.d (lli rows)) S Q := r_notInD (.d _) (.d _) (shaped_li _) (shaped_lli _) (by rw [any_rowsI]; exact q)
theorem v_index {ns : List Int} {n : Int} (hn : n ∈ ns) (q : Q (.d (.int (ns.idxOf n : Nat))) S) : dRM K (rIndex K) (.d (li ns)) [.d (.int n)] S Q := r_indexI (liLst (.d _)) hn q
theorem v_sumI {ns : List Int} (q : Q (.d (.int ns.sum)) S) : dRL K (rSum K) [.d (li ns)] S Q := r_sumI (liLst (.d _)) q
/-! ### comprehensions -/
theorem v_lc {wi : TI} {g : TG} {tt : TT} {ws : List Nat} (hg : gW g ws) (h : dI K wi Γ S fun n Ok Y S1 => ∃ I : Nat → List PyData → Sto → Prop, I 0 [] S1 ∧ (∀ D i acc S', I i acc S' → Ok ((D, .lst (acc.map .d)) :: S')) ∧
    (∀ D i acc S' y S2, i < n → I i acc S' → Y i y ((D, .lst (acc.map .d)) :: S') S2 → dG K g y (wipeA Γ ws) S2 fun Γ2 S3 => dT K tt Γ2 S3 fun b S4 => (b = true → dE K te Γ2 S4 fun z S5 => ∃ d S6, Frz z S5 d ((D, .lst (acc.map .d)) :: S6) ∧ acc.length < 100000 ∧ I (i + 1) (acc ++ [d]) S6) ∧ (b = false → ∃ S6, S4 = (D, .lst (acc.map .d)) :: S6 ∧ I (i + 1) acc S6)) ∧
    ∀ acc S', I n acc S' → Q (.d (.list acc)) S') : dE K (tLc wi g tt te ws) Γ S Q :=
  d_frz (d_lc hg fun σ F H s c R' p => h σ F H s c R' fun J n Ok Y F1 H1 S1 e1 c1 hJ ⟨I, i0, hok, step, fin⟩ => p J n Ok Y F1 H1 S1 e1 c1 hJ fun D => by
    refine ⟨fun i S' => ∃ acc S2, S' = (D, .lst (acc.map .d)) :: S2 ∧ I i acc S2, ⟨[], S1, rfl, i0⟩, fun i S' ⟨acc, S2, e, k⟩ => by rw [e]; exact hok D i acc S2 k, fun i S' y S2 hi ⟨acc, S3, e, k⟩ hy => ?_, fun S' ⟨acc, S2, e, k⟩ => ⟨_, _, by rw [e]; exact .l, fin acc S2 k⟩⟩
    subst e
    intro v σ F H s c o Q' p
    refine step D i acc S3 y S2 hi k hy v σ F H s c o Q' fun σ' F' H' Γ' S' e s' c' q => p σ' F' H' Γ' S' e s' c' (q.imp fun b S4 ⟨q1, q2⟩ => ⟨fun hb => d_frz ((q1 hb).imp fun z S5 ⟨d, S6, fz, hz, k2⟩ => ⟨d, _, fz, acc.map .d, _, .here, by rw [List.length_map]; exact sz_lt hz, acc ++ [d], S6, by rw [List.map_append]; rfl, k2⟩), fun hb => ?_⟩)
    obtain ⟨S6, e6, k2⟩ := q2 hb
    exact ⟨acc, S6, e6, k2⟩)
/-- each element by itself; the store stays -/
theorem v_map {wi : TI} {g : TG} {ws : List Nat} (hg : gW g ws) (h : dI K wi Γ S fun n Ok Y S1 => ∃ P : Nat → PyData → Prop, n ≤ 100000 ∧ (∀ D acc, Ok ((D, .lst acc) :: S1)) ∧
    (∀ D acc i y S2, i < n → Y i y ((D, .lst acc) :: S1) S2 → dG K g y (wipeA Γ ws) S2 fun Γ2 S3 => dE K te Γ2 S3 fun z S5 => ∃ d, Frz z S5 d ((D, .lst acc) :: S1) ∧ P i d) ∧
    ∀ ds : List PyData, ds.length = n → (∀ i, i < n → ∃ d, ds[i]? = some d ∧ P i d) → Q (.d (.list ds)) S1) : dE K (tLc wi g tYes te ws) Γ S Q :=
  v_lc hg fun σ F H s c R' p => h σ F H s c R' fun J n Ok Y F1 H1 S1 e1 c1 hJ ⟨P, hn, hok, step, fin⟩ => p J n Ok Y F1 H1 S1 e1 c1 hJ (by
    refine ⟨fun i acc S' => S' = S1 ∧ acc.length = i ∧ ∀ j, j < i → ∃ d, acc[j]? = some d ∧ P j d, ⟨rfl, rfl, fun _ z => absurd z (Nat.not_lt_zero _)⟩, fun D i acc S' ⟨e, _⟩ => by rw [e]; exact hok _ _, fun D i acc S' y S2 hi ⟨e, hl, hp⟩ hy => ?_, fun acc S' ⟨e, hl, hp⟩ => by rw [e]; exact fin acc hl hp⟩
    subst e
    intro v σ F H s c o Q' p
    refine step D _ i y S2 hi hy v σ F H s c o Q' fun σ' F' H' Γ' S' e s' c' q => p σ' F' H' Γ' S' e s' c' (d_tyes ⟨fun _ => q.imp fun z S5 ⟨d, fz, pd⟩ => ⟨d, _, fz, by omega, rfl, by rw [List.length_append, hl]; rfl, fun j hj => ?_⟩, fun z => by cases z⟩)
    by_cases c : j < i
    · rw [List.getElem?_append_left (by omega)]
      exact hp j c
    · obtain rfl : j = i := by omega
      rw [List.getElem?_append_right (by omega), hl, Nat.sub_self]
      exact ⟨d, rfl, pd⟩)
theorem ints_ds {ds : List PyData} {P : Nat → Int → Prop} {n : Nat} (hl : ds.length = n) (h : ∀ i, i < n → ∃ d, ds[i]? = some d ∧ ∃ k : Int, d = .int k ∧ P i k) : ∃ ns : List Int, ds = ns.map .int ∧ ns.length = n ∧ ∀ i, i < n → P i (ns.getD i 0) := by
  let f : PyData → Int := fun d => match d with | .int k => k | _ => 0
  refine ⟨ds.map f, ?_, by rw [List.length_map, hl], fun i hi => ?_⟩
  · rw [List.map_map]
    refine (List.ext_getElem? fun i => ?_)
    rw [List.getElem?_map]
    by_cases c : i < n
    · obtain ⟨d, e, k, rfl, _⟩ := h i c
      rw [e]
      rfl
    · rw [List.getElem?_eq_none (by omega)]
      rfl
  · obtain ⟨d, e, k, rfl, p⟩ := h i hi
    rw [List.getD_eq_getElem?_getD, List.getElem?_map, e]
    exact p
theorem rows_ds {ds : List PyData} {P : Nat → List Int → Prop} {n : Nat} (hl : ds.length = n) (h : ∀ i, i < n → ∃ d, ds[i]? = some d ∧ ∃ k : List Int, d = li k ∧ P i k) : ∃ ns : List (List Int), ds = ns.map li ∧ ns.length = n ∧ ∀ i, i < n → P i (ns.getD i []) := by
  let g : PyData → Int := fun d => match d with | .int k => k | _ => 0
  let f : PyData → List Int := fun d => match d with | .list k => k.map g | _ => []
  have fg : ∀ k : List Int, f (li k) = k := fun k => by
    show (k.map PyData.int).map g = k
    rw [List.map_map]
    exact List.map_id' k
  refine ⟨ds.map f, ?_, by rw [List.length_map, hl], fun i hi => ?_⟩
  · rw [List.map_map]
    refine (List.ext_getElem? fun i => ?_)
    rw [List.getElem?_map]
    by_cases c : i < n
    · obtain ⟨d, e, k, rfl, _⟩ := h i c
      rw [e]
      show some (li k) = some (li (f (li k)))
      rw [fg]
    · rw [List.getElem?_eq_none (by omega)]
      rfl
  · obtain ⟨d, e, k, rfl, p⟩ := h i hi
    rw [List.getD_eq_getElem?_getD, List.getElem?_map, e]
    show P i (f (li k))
    rw [fg]
    exact p
theorem v_mapI {wi : TI} {g : TG} {ws : List Nat} (hg : gW g ws) (h : dI K wi Γ S fun n Ok Y S1 => ∃ P : Nat → Int → Prop, n ≤ 100000 ∧ (∀ D acc, Ok ((D, .lst acc) :: S1)) ∧
    (∀ D acc i y S2, i < n → Y i y ((D, .lst acc) :: S1) S2 → dG K g y (wipeA Γ ws) S2 fun Γ2 S3 => dE K te Γ2 S3 fun z S5 => ∃ k : Int, z = .d (.int k) ∧ P i k ∧ S5 = (D, .lst acc) :: S1) ∧
    ∀ ns : List Int, ns.length = n → (∀ i, i < n → P i (ns.getD i 0)) → Q (.d (li ns)) S1) : dE K (tLc wi g tYes te ws) Γ S Q :=
  v_map hg fun σ F H s c R' p => h σ F H s c R' fun J n Ok Y F1 H1 S1 e1 c1 hJ ⟨P, hn, hok, step, fin⟩ => p J n Ok Y F1 H1 S1 e1 c1 hJ ⟨fun i d => ∃ k : Int, d = .int k ∧ P i k, hn, hok, fun D acc i y S2 hi hy v σ F H s c o Q' p => step D acc i y S2 hi hy v σ F H s c o Q' fun σ' F' H' Γ' S' e s' c' q => p σ' F' H' Γ' S' e s' c' (q.imp fun z S5 ⟨k, ez, pk, es⟩ => ⟨.int k, by rw [ez, es]; exact .d, k, rfl, pk⟩), fun ds hl hd => by
    obtain ⟨ns, rfl, h1, h2⟩ := ints_ds hl hd
    exact fin ns h1 h2⟩
theorem v_mapR {wi : TI} {g : TG} {ws : List Nat} (hg : gW g ws) (h : dI K wi Γ S fun n Ok Y S1 => ∃ P : Nat → List Int → Prop, n ≤ 100000 ∧ (∀ D acc, Ok ((D, .lst acc) :: S1)) ∧
    (∀ D acc i y S2, i < n → Y i y ((D, .lst acc) :: S1) S2 → dG K g y (wipeA Γ ws) S2 fun Γ2 S3 => dE K te Γ2 S3 fun z S5 => ∃ k : List Int, Frz z S5 (li k) ((D, .lst acc) :: S1) ∧ P i k) ∧
    ∀ ns : List (List Int), ns.length = n → (∀ i, i < n → P i (ns.getD i [])) → Q (.d (lli ns)) S1) : dE K (tLc wi g tYes te ws) Γ S Q :=
  v_map hg fun σ F H s c R' p => h σ F H s c R' fun J n Ok Y F1 H1 S1 e1 c1 hJ ⟨P, hn, hok, step, fin⟩ => p J n Ok Y F1 H1 S1 e1 c1 hJ ⟨fun i d => ∃ k : List Int, d = li k ∧ P i k, hn, hok, fun D acc i y S2 hi hy v σ F H s c o Q' p => step D acc i y S2 hi hy v σ F H s c o Q' fun σ' F' H' Γ' S' e s' c' q => p σ' F' H' Γ' S' e s' c' (q.imp fun z S5 ⟨k, ez, pk⟩ => ⟨li k, ez, k, rfl, pk⟩), fun ds hl hd => by
    obtain ⟨ns, rfl, h1, h2⟩ := rows_ds hl hd
    exact fin ns h1 h2⟩
/-- the same, of any data -/
theorem v_mapM {wi : TI} {g : TG} {ws : List Nat} (hg : gW g ws) (h : dI K wi Γ S fun n Ok Y S1 => ∃ P : Nat → PyData → Prop, n ≤ 100000 ∧ (∀ D acc, Ok ((D, .lst acc) :: S1)) ∧
    (∀ D acc i y S2, i < n → Y i y ((D, .lst acc) :: S1) S2 → dG K g y (wipeA Γ ws) S2 fun Γ2 S3 => dE K te Γ2 S3 fun z S5 => ∃ k : PyData, Frz z S5 k ((D, .lst acc) :: S1) ∧ P i k) ∧
    ∀ (D : Addr) (ns : List PyData), ns.length = n → (∀ i, i < n → ∃ d, ns[i]? = some d ∧ P i d) → Q (.r D) ((D, .lst (ns.map .d)) :: S1)) : dE K (tLc wi g tYes te ws) Γ S Q :=
  d_lc hg fun σ F H s c R' p => h σ F H s c R' fun J n Ok Y F1 H1 S1 e1 c1 hJ ⟨P, hn, hok, step, fin⟩ => p J n Ok Y F1 H1 S1 e1 c1 hJ fun D => by
    refine ⟨fun i S' => ∃ ns : List PyData, S' = (D, .lst (ns.map .d)) :: S1 ∧ ns.length = i ∧ ∀ j, j < i → ∃ d, ns[j]? = some d ∧ P j d, ⟨[], rfl, rfl, fun _ z => absurd z (Nat.not_lt_zero _)⟩, fun i S' ⟨ns, e, _⟩ => by rw [e]; exact hok _ _, fun i S' y S2 hi ⟨ns, e, hl, hp⟩ hy => ?_, fun S' ⟨ns, e, hl, hp⟩ => by rw [e]; exact fin D ns hl hp⟩
    subst e
    intro v σ F H s c o Q' p
    refine step D _ i y S2 hi hy v σ F H s c o Q' fun σ' F' H' Γ' S' e s' c' q => p σ' F' H' Γ' S' e s' c' (d_tyes ⟨fun _ => d_frz (q.imp fun z S5 ⟨k, fz, pk⟩ => ⟨_, _, fz, ns.map .d, (D, .lst ((ns ++ [k]).map .d)) :: S1, by rw [List.map_append]; exact .here, by rw [List.length_map]; exact sz_lt (by omega), ns ++ [k], rfl, by rw [List.length_append, hl]; rfl, fun j hj => ?_⟩), fun z => by cases z⟩)
    by_cases c : j < i
    · rw [List.getElem?_append_left (by omega)]
      exact hp j c
    · obtain rfl : j = i := by omega
      rw [List.getElem?_append_right (by omega), hl, Nat.sub_self]
      exact ⟨k, rfl, pk⟩
/-- the same, the list to be kept -/
theorem v_mapIM {wi : TI} {g : TG} {ws : List Nat} (hg : gW g ws) (h : dI K wi Γ S fun n Ok Y S1 => ∃ P : Nat → Int → Prop, n ≤ 100000 ∧ (∀ D acc, Ok ((D, .lst acc) :: S1)) ∧
    (∀ D acc i y S2, i < n → Y i y ((D, .lst acc) :: S1) S2 → dG K g y (wipeA Γ ws) S2 fun Γ2 S3 => dE K te Γ2 S3 fun z S5 => ∃ k : Int, z = .d (.int k) ∧ P i k ∧ S5 = (D, .lst acc) :: S1) ∧
    ∀ (D : Addr) (ns : List Int), ns.length = n → (∀ i, i < n → P i (ns.getD i 0)) → Q (.r D) ((D, .lst (vi ns)) :: S1)) : dE K (tLc wi g tYes te ws) Γ S Q :=
  d_lc hg fun σ F H s c R' p => h σ F H s c R' fun J n Ok Y F1 H1 S1 e1 c1 hJ ⟨P, hn, hok, step, fin⟩ => p J n Ok Y F1 H1 S1 e1 c1 hJ fun D => by
    refine ⟨fun i S' => ∃ ns : List Int, S' = (D, .lst (vi ns)) :: S1 ∧ ns.length = i ∧ ∀ j, j < i → P j (ns.getD j 0), ⟨[], rfl, rfl, fun _ z => absurd z (Nat.not_lt_zero _)⟩, fun i S' ⟨ns, e, _⟩ => by rw [e]; exact hok _ _, fun i S' y S2 hi ⟨ns, e, hl, hp⟩ hy => ?_, fun S' ⟨ns, e, hl, hp⟩ => by rw [e]; exact fin D ns hl hp⟩
    subst e
    intro v σ F H s c o Q' p
    refine step D _ i y S2 hi hy v σ F H s c o Q' fun σ' F' H' Γ' S' e s' c' q => p σ' F' H' Γ' S' e s' c' (d_tyes ⟨fun _ => q.imp fun z S5 ⟨k, ez, pk, es⟩ => ⟨vi ns, (D, .lst (vi (ns ++ [k]))) :: S1, by rw [es, ez, vi_snoc]; exact .here, by rw [vi_len]; exact sz_lt (by omega), ns ++ [k], rfl, by rw [List.length_append, hl]; rfl, fun j hj => ?_⟩, fun z => by cases z⟩)
    by_cases c : j < i
    · rw [List.getD_eq_getElem?_getD, List.getElem?_append_left (by omega), ← List.getD_eq_getElem?_getD]
      exact hp j c
    · obtain rfl : j = i := by omega
      rw [List.getD_eq_getElem?_getD, List.getElem?_append_right (by omega), hl, Nat.sub_self]
      exact pk
/-- a function's list -/
theorem map_getD {f : Nat → Int} {ns : List Int} {n : Nat} (hl : ns.length = n) (h : ∀ i, i < n → ns.getD i 0 = f i) : ns = (List.range n).map f := by
  refine List.ext_getElem? fun i => ?_
  rw [List.getElem?_map]
  by_cases c : i < n
  · rw [List.getElem?_range c, List.getElem?_eq_getElem (by omega), ← getD_lt (by omega), h i c]
    rfl
  · rw [List.getElem?_eq_none (by omega), List.getElem?_eq_none (by rw [List.length_range]; omega)]
    rfl
theorem map_getDR {f : Nat → List Int} {ns : List (List Int)} {n : Nat} (hl : ns.length = n) (h : ∀ i, i < n → ns.getD i [] = f i) : ns = (List.range n).map f := by
  refine List.ext_getElem? fun i => ?_
  rw [List.getElem?_map]
  by_cases c : i < n
  · rw [List.getElem?_range c, List.getElem?_eq_getElem (by omega), ← getD_ltR (by omega), h i c]
    rfl
  · rw [List.getElem?_eq_none (by omega), List.getElem?_eq_none (by rw [List.length_range]; omega)]
    rfl
/-! ### what is walked, by data -/
theorem i_D {R} (h : dE K te Γ S fun x S1 => ∃ ds : List PyData, x = .d (.list ds) ∧ R ds.length (fun _ => True) (fun i y S S' => ∃ d, ds[i]? = some d ∧ y = .d d ∧ S' = S) S1) : dI K (iList K te) Γ S R := fun σ F H s c R' p =>
  i_list (R := fun n Ok Y S1 => ∃ ds : List PyData, n = ds.length ∧ (∀ S, Ok S) ∧ (∀ i y S S', Y i y S S' → ∃ d, ds[i]? = some d ∧ y = .d d ∧ S' = S) ∧ R ds.length (fun _ => True) (fun i y S S' => ∃ d, ds[i]? = some d ∧ y = .d d ∧ S' = S) S1) (h.imp fun x S1 ⟨ds, e, q⟩ => ⟨ds.map .d, by rw [e]; exact .d ds, ds, by rw [List.length_map], fun S => by rw [e]; exact .d ds, fun i y S S' ⟨hy, es⟩ => by
    rw [List.getElem?_map] at hy
    obtain ⟨d, hd, rfl⟩ := Option.map_eq_some_iff.mp hy
    exact ⟨d, hd, rfl, es⟩, q⟩) σ F H s c R' fun J n Ok Y F1 H1 S1 e1 c1 hJ ⟨ns, en, hok, hY, q⟩ => p J _ _ _ F1 H1 S1 e1 c1 (fun i F H S e c _ => by
    subst en
    obtain ⟨st, go⟩ := hJ i F H S e c (hok S)
    refine ⟨st, fun hi => ⟨(go hi).1, fun w H' hy => ?_⟩⟩
    obtain ⟨F', S', y, e', c', o', y'⟩ := (go hi).2 w H' hy
    exact ⟨F', S', y, e', c', o', hY _ _ _ _ y'⟩) q
theorem i_I {R} (h : dE K te Γ S fun x S1 => ∃ ns : List Int, x = .d (li ns) ∧ R ns.length (fun _ => True) (fun i y S S' => y = .d (.int (ns.getD i 0)) ∧ S' = S) S1) : dI K (iList K te) Γ S R := fun σ F H s c R' p =>
  i_D (R := fun n Ok Y S1 => ∃ ns : List Int, n = ns.length ∧ (∀ S, Ok S) ∧ (∀ i y S S', Y i y S S' → y = .d (.int (ns.getD i 0)) ∧ S' = S) ∧ R ns.length (fun _ => True) (fun i y S S' => y = .d (.int (ns.getD i 0)) ∧ S' = S) S1) (h.imp fun x S1 ⟨ns, e, q⟩ => ⟨_, e, ns, List.length_map _, fun S => trivial, fun i y S S' ⟨d, hd, ey, es⟩ => by
    rw [List.getElem?_map] at hd
    obtain ⟨k, hk, rfl⟩ := Option.map_eq_some_iff.mp hd
    rw [List.getD_eq_getElem?_getD, hk]
    exact ⟨ey, es⟩, q⟩) σ F H s c R' fun J n Ok Y F1 H1 S1 e1 c1 hJ ⟨ns, en, hok, hY, q⟩ => p J _ _ _ F1 H1 S1 e1 c1 (fun i F H S e c _ => by
    subst en
    obtain ⟨st, go⟩ := hJ i F H S e c (hok S)
    refine ⟨st, fun hi => ⟨(go hi).1, fun w H' hy => ?_⟩⟩
    obtain ⟨F', S', y, e', c', o', y'⟩ := (go hi).2 w H' hy
    exact ⟨F', S', y, e', c', o', hY _ _ _ _ y'⟩) q
theorem i_R {R} (h : dE K te Γ S fun x S1 => ∃ ns : List (List Int), x = .d (lli ns) ∧ R ns.length (fun _ => True) (fun i y S S' => y = .d (li (ns.getD i [])) ∧ S' = S) S1) : dI K (iList K te) Γ S R := fun σ F H s c R' p =>
  i_D (R := fun n Ok Y S1 => ∃ ns : List (List Int), n = ns.length ∧ (∀ S, Ok S) ∧ (∀ i y S S', Y i y S S' → y = .d (li (ns.getD i [])) ∧ S' = S) ∧ R ns.length (fun _ => True) (fun i y S S' => y = .d (li (ns.getD i [])) ∧ S' = S) S1) (h.imp fun x S1 ⟨ns, e, q⟩ => ⟨_, e, ns, List.length_map _, fun S => trivial, fun i y S S' ⟨d, hd, ey, es⟩ => by
    rw [List.getElem?_map] at hd
    obtain ⟨k, hk, rfl⟩ := Option.map_eq_some_iff.mp hd
    rw [List.getD_eq_getElem?_getD, hk]
    exact ⟨ey, es⟩, q⟩) σ F H s c R' fun J n Ok Y F1 H1 S1 e1 c1 hJ ⟨ns, en, hok, hY, q⟩ => p J _ _ _ F1 H1 S1 e1 c1 (fun i F H S e c _ => by
    subst en
    obtain ⟨st, go⟩ := hJ i F H S e c (hok S)
    refine ⟨st, fun hi => ⟨(go hi).1, fun w H' hy => ?_⟩⟩
    obtain ⟨F', S', y, e', c', o', y'⟩ := (go hi).2 w H' hy
    exact ⟨F', S', y, e', c', o', hY _ _ _ _ y'⟩) q
/-- a pair just made is taken apart -/
theorem g_pair {g1 g2 : TG} {a : Addr} {x y : Va} {n : Env → Sto → Prop} {k : Nat} (hk : k = 2) (h : dGs K (gCons g1 (gCons g2 gNil)) [x, y] Γ ((a, .tup [x, y]) :: S) fun Γ' S' => S' = (a, .tup [x, y]) :: S ∧ n Γ' S) : dG K (gTup K k (gCons g1 (gCons g2 gNil))) (.r a) Γ ((a, .tup [x, y]) :: S) n :=
  g_less (g_tup (.r List.mem_cons_self) hk.symm fun vs σ F H s c o Q' p => h vs σ F H s c o Q' fun σ' F' H' Γ' S' e s' c' ⟨es, q⟩ => p σ' F' H' Γ' S' e s' c' ⟨S, by rw [es]; exact List.sublist_cons_self _ _, q⟩)
/-! ### all that was made is data at once -/
mutual
theorem Sees.fz {C : Sto} {F1 : Hp} (hl : ∀ a xs, (a, Ce.lst xs) ∈ C → ∃ vs, F1 a = some (.lst vs) ∧ Paired (VaOk K F1) xs vs) (ht : ∀ a xs, (a, Ce.tup xs) ∈ C → ∃ vs, F1 a = some (.tup vs) ∧ Paired (VaOk K F1) xs vs) : ∀ {x : Va} {d : PyData} {v : V}, Sees C x d → VaOk K F1 x v → At K F1 v d
  | _, _, _, .d _, hv => hv
  | _, _, _, .l m t, hv => by
    obtain ⟨vs, e, p⟩ := hl _ _ m
    cases hv
    exact .lst (.inl (.inl e)) (SeesAll.fz hl ht t p)
  | _, _, _, .t m t, hv => by
    obtain ⟨vs, e, p⟩ := ht _ _ m
    cases hv
    exact .tup e (SeesAll.fz hl ht t p)
theorem SeesAll.fz {C : Sto} {F1 : Hp} (hl : ∀ a xs, (a, Ce.lst xs) ∈ C → ∃ vs, F1 a = some (.lst vs) ∧ Paired (VaOk K F1) xs vs) (ht : ∀ a xs, (a, Ce.tup xs) ∈ C → ∃ vs, F1 a = some (.tup vs) ∧ Paired (VaOk K F1) xs vs) : ∀ {xs : List Va} {ds : List PyData} {vs : List V}, SeesAll C xs ds → Paired (VaOk K F1) xs vs → AtAll K F1 vs ds
  | _, _, _, .nil, h => by cases h; exact .nil
  | _, _, _, .cons h t, hv => by
    cases hv with
    | cons h1 t1 => exact .cons (Sees.fz hl ht h h1) (SeesAll.fz hl ht t t1)
end
theorem Cf.frzS {C : Sto} {d : PyData} (c : Cf K (C ++ S) F H) (h : Sees C x d) (hv : VaOk K F x v) : ∃ F', Same F F' ∧ Cf K S F' H ∧ At K F' v d := by
  let F1 : Hp := fun b => if b ∈ C.map (·.1) then H b else F b
  have hin : ∀ {q : Addr × Ce}, q ∈ C → F1 q.1 = H q.1 := fun {q} m => if_pos (List.mem_map_of_mem m)
  have s1 : Same F F1 := fun a u e => by
    show (if a ∈ C.map (·.1) then H a else F a) = some u
    split
    · next m =>
      obtain ⟨q, hq, rfl⟩ := List.mem_map.mp m
      rw [c.fr q (List.mem_append_left _ hq)] at e
      cases e
    · exact e
  have nd := c.nd
  rw [List.map_append, List.nodup_append] at nd
  refine ⟨F1, s1, ⟨fun a u e => ?_, nd.2.1, fun p hp => ?_, fun p hp => (c.ok p (List.mem_append_right _ hp)).freeze s1⟩, ?_⟩
  · have e : (if a ∈ C.map (·.1) then H a else F a) = some u := e
    split at e
    · exact e
    · exact c.ex a u e
  · show (if p.1 ∈ C.map (·.1) then H p.1 else F p.1) = none
    rw [if_neg fun m => nd.2.2 _ m _ (List.mem_map_of_mem hp) rfl]
    exact c.fr p (List.mem_append_right _ hp)
  · refine h.fz (fun a xs m => ?_) (fun a xs m => ?_) (VaOk.mono s1 hv)
    · obtain ⟨vs, e, r⟩ := c.ok _ (List.mem_append_left _ m)
      exact ⟨vs, (hin m).trans e, vas_mono s1 r⟩
    · obtain ⟨vs, e, r⟩ := c.ok _ (List.mem_append_left _ m)
      exact ⟨vs, (hin m).trans e, vas_mono s1 r⟩
theorem d_frzS (h : dE K te Γ S fun x S1 => ∃ d C S0, S1 = C ++ S0 ∧ Sees C x d ∧ Q (.d d) S0) : dE K te Γ S Q := fun σ F H s c Q' p =>
  h σ F H s c _ fun v F1 H1 x S1 e1 c1 o1 ⟨d, C, S0, e, z, q⟩ => by
    subst e
    obtain ⟨F2, e2, c2, o2⟩ := c1.frzS z o1
    exact p v F2 H1 (.d d) S0 (e1.trans e2) c2 o2 q
theorem rL_frzS {r : List V → Hp → VK → Prop} {xs : List Va} (h : dRL K r xs S fun x S1 => ∃ d C S0, S1 = C ++ S0 ∧ Sees C x d ∧ Q (.d d) S0) : dRL K r xs S Q := fun vs F H c o Q' p =>
  h vs F H c o _ fun v F1 H1 x S1 e1 c1 o1 ⟨d, C, S0, e, z, q⟩ => by
    subst e
    obtain ⟨F2, e2, c2, o2⟩ := c1.frzS z o1
    exact p v F2 H1 (.d d) S0 (e1.trans e2) c2 o2 q
/-- a def's promise, its answer frozen -/
theorem d_callS {α : Type} {sp : Spec α} {E : XK} {t : TA} {f : α → PyData} (hf : ∀ a S y S', sp.post a S y S' → ∃ C, S' = C ++ S ∧ Sees C y (f a)) (h : dA K t Γ S fun xs S1 => ∃ a, sp.pre a xs S1 ∧ Q (.d (f a)) S1) : dE K (tCall (spD K sp) [] E t) Γ S Q :=
  d_frzS (d_call (h.imp fun xs S1 ⟨a, p, q⟩ => ⟨a, p, fun x S' k => by
    obtain ⟨C, e, z⟩ := hf a S1 x S' k
    exact ⟨_, C, S1, e, z, q⟩⟩))
/-- the same, under a condition -/
theorem d_callSC {α : Type} {sp : Spec α} {E : XK} {t : TA} {f : α → PyData} {cnd : α → Prop} (hf : ∀ a S y S', cnd a → sp.post a S y S' → ∃ C, S' = C ++ S ∧ Sees C y (f a)) (h : dA K t Γ S fun xs S1 => ∃ a, sp.pre a xs S1 ∧ cnd a ∧ Q (.d (f a)) S1) : dE K (tCall (spD K sp) [] E t) Γ S Q :=
  d_frzS (d_call (h.imp fun xs S1 ⟨a, p, cn, q⟩ => ⟨a, p, fun x S' k => by
    obtain ⟨C, e, z⟩ := hf a S1 x S' cn k
    exact ⟨_, C, S1, e, z, q⟩⟩))
/-- the same, of a promise that leaves something open -/
theorem d_callSE {α : Type} {sp : Spec α} {E : XK} {t : TA} {φ : α → PyData → Prop} (hf : ∀ a S y S', sp.post a S y S' → ∃ C d, S' = C ++ S ∧ Sees C y d ∧ φ a d) (h : dA K t Γ S fun xs S1 => ∃ a, sp.pre a xs S1 ∧ ∀ d, φ a d → Q (.d d) S1) : dE K (tCall (spD K sp) [] E t) Γ S Q :=
  d_frzS (d_call (h.imp fun xs S1 ⟨a, p, q⟩ => ⟨a, p, fun x S' k => by
    obtain ⟨C, d, e, z, w⟩ := hf a S1 x S' k
    exact ⟨_, C, S1, e, z, q d w⟩⟩))
theorem mem_sub {A B : List Int} (h : (A.all fun x => decide (x ∈ B)) = true) : ∀ x ∈ A, x ∈ B := fun x hx => of_decide_eq_true (List.all_eq_true.mp h x hx)
theorem blk_all {l : List Int} (h : (l.all fun b => decide (0 ≤ b) && decide (b ≤ 10 ^ 9)) = true) : ∀ b ∈ l, Blk b := fun b hb => by
  have := List.all_eq_true.mp h b hb
  rw [Bool.and_eq_true, decide_eq_true_eq, decide_eq_true_eq] at this
  exact this
theorem ixS {k : Int} {n : Nat} (h : 0 ≤ k) (h2 : k < n) : seqIndex? k n = some k.toNat := by
  unfold seqIndex?
  have a : ¬ k < 0 := by omega
  dsimp only
  rw [if_neg a, decide_eq_true h, decide_eq_true h2]
  rfl
theorem erase_perm {α : Type} {xs : List α} : ∀ {k : Nat} (h : k < xs.length), (xs[k] :: xs.eraseIdx k).Perm xs := by
  induction xs with
  | nil => intro k h; exact absurd h (Nat.not_lt_zero _)
  | cons x t ih =>
    intro k h
    cases k with
    | zero => exact .refl _
    | succ k =>
      have h' : k < t.length := Nat.lt_of_succ_lt_succ h
      exact (List.Perm.swap _ _ _).trans ((ih h').cons x)
theorem vi_erase (ls : List Int) : ∀ k : Nat, (vi ls).eraseIdx k = vi (ls.eraseIdx k) := by
  induction ls with
  | nil => intro k; rfl
  | cons x t ih =>
    intro k
    cases k with
    | zero => rfl
    | succ k => exact congrArg (List.cons _) (ih k)
theorem rg_isP {n : Int} (h : 0 ≤ n) : IsP (rg n) := by
  unfold IsP
  rw [rg_len, Int.toNat_of_nonneg h]
def vl (rs : List (List Int)) : List Va := rs.map fun r => .d (li r)
theorem vl_len (rs : List (List Int)) : (vl rs).length = rs.length := List.length_map _
theorem vl_snoc (rs : List (List Int)) (r : List Int) : vl rs ++ [.d (li r)] = vl (rs ++ [r]) := by
  unfold vl
  rw [List.map_append]
  rfl
theorem vl_map (rs : List (List Int)) : vl rs = (rs.map li).map Va.d := by
  unfold vl
  rw [List.map_map]
  rfl
theorem sees_vl {rs : List (List Int)} {a : Addr} (m : (a, Ce.lst (vl rs)) ∈ S) : Sees S (.r a) (lli rs) := Sees.ofLst (.r (by rw [← vl_map]; exact m))
theorem row_take (n : Nat) (i t : Int) (j : Nat) (h : j < n) : (rowM n i t).take (j + 1) = (rowM n i t).take j ++ [plR (j : Int) i t] := by
  rw [List.take_add_one]
  refine congrArg _ ?_
  unfold rowM
  rw [List.getElem?_map, List.getElem?_range h]
  rfl
theorem perm_isP {ms : List Int} {n : Nat} (pm : ms.Perm (rg (n : Int))) : IsP ms ∧ (ms.length : Int) = n := by
  have hl : (ms.length : Int) = n := by rw [pm.length_eq, rg_len]; omega
  refine ⟨?_, hl⟩
  unfold IsP
  rw [hl]
  exact pm
theorem r_pow3 {i : Int} (hi : i.natAbs < 2 ^ 450) (q : Q (.d (.int (i ^ (3 : Int).toNat))) S) : dR2 K (rI CPowW fun i j => .int (i ^ j.toNat)) (.d (.int i)) (.d (.int 3)) S Q := r_c (C := CPowW) (by
  have := PyProof.Rows.intBits_le hi
  refine ⟨by decide, ?_⟩
  omega) q
theorem lt8000 {m : Int} (h : m ≤ 10 ^ 18 + 1) : m < 2 ^ 8000 := Int.lt_of_le_of_lt h (by decide +kernel)
theorem getD_mem {l : List Int} {i : Nat} (h : i < l.length) : l.getD i 0 ∈ l := by
  rw [getD_lt h]
  exact List.getElem_mem h
theorem getD_memR {l : List (List Int)} {i : Nat} (h : i < l.length) : l.getD i [] ∈ l := by
  rw [getD_ltR h]
  exact List.getElem_mem h
theorem all_getD {l : List Int} {P : Int → Prop} {n : Nat} (hl : l.length = n) (h : ∀ i, i < n → P (l.getD i 0)) : ∀ x ∈ l, P x := fun x hx => by
  obtain ⟨i, hi, rfl⟩ := List.getElem_of_mem hx
  have := h i (by omega)
  rwa [getD_lt hi] at this
theorem all_getDR {l : List (List Int)} {P : List Int → Prop} {n : Nat} (hl : l.length = n) (h : ∀ i, i < n → P (l.getD i [])) : ∀ x ∈ l, P x := fun x hx => by
  obtain ⟨i, hi, rfl⟩ := List.getElem_of_mem hx
  have := h i (by omega)
  rwa [getD_ltR hi] at this
theorem pool_nodup {ms ns P : List Int} (hP : P.Nodup) (hl : ns.length = ms.length) (hm : ∀ x ∈ ms, 0 ≤ x ∧ x < P.length) (nd : ms.Nodup) (h : ∀ i, i < ms.length → ns.getD i 0 = P.getD (ms.getD i 0).toNat 0) : ns.Nodup := by
  rw [List.nodup_iff_pairwise_ne]
  refine List.pairwise_iff_getElem.mpr fun i j hi hj hij e => ?_
  have e1 := h i (by omega)
  have e2 := h j (by omega)
  rw [getD_lt hi] at e1
  rw [getD_lt hj] at e2
  have m1 := hm _ (List.getElem_mem (show i < ms.length by omega))
  have m2 := hm _ (List.getElem_mem (show j < ms.length by omega))
  rw [getD_lt (show i < ms.length by omega), getD_lt (show (ms[i]).toNat < P.length by omega)] at e1
  rw [getD_lt (show j < ms.length by omega), getD_lt (show (ms[j]).toNat < P.length by omega)] at e2
  rw [e1, e2] at e
  have := (List.getElem_inj hP).mp e
  have e3 : ms[i] = ms[j] := by omega
  have := (List.getElem_inj nd).mp e3
  omega
/-- a list of bools -/
def lb (bs : List Bool) : PyData := .list (bs.map .bool)
theorem vb_map (bs : List Bool) : vb bs = (bs.map PyData.bool).map Va.d := by
  unfold vb
  rw [List.map_map]
  rfl
theorem sees_vb {bs : List Bool} {a : Addr} (m : (a, Ce.lst (vb bs)) ∈ S) : Sees S (.r a) (lb bs) := Sees.ofLst (.r (by rw [← vb_map]; exact m))
theorem v_lenB {bs : List Bool} (q : Q (.d (.int (bs.length : Nat))) S) : dRL K (rLen K) [.d (lb bs)] S Q := v_len (by rw [List.length_map]; exact q)
theorem eqv_boolD (a b : Bool) : PyData.eqv (.bool a) (.bool b) = decide (a = b) := by cases a <;> cases b <;> rfl
theorem eqvAll_lb : ∀ a b : List Bool, PyData.eqvAll (a.map .bool) (b.map .bool) = decide (a = b)
  | [], [] => by simp [PyData.eqvAll]
  | [], _ :: _ => by simp [PyData.eqvAll]
  | _ :: _, [] => by simp [PyData.eqvAll]
  | x :: xs, y :: ys => by
    rw [List.map_cons, List.map_cons, PyData.eqvAll, eqvAll_lb xs ys, eqv_boolD]
    by_cases h : x = y <;> by_cases h2 : xs = ys <;> simp [h, h2]
theorem eqv_lb (a b : List Bool) : PyData.eqv (lb a) (lb b) = decide (a = b) := by
  unfold lb
  rw [PyData.eqv, eqvAll_lb]
theorem shaped_lb (a : List Bool) : SeqAt.shaped (lb a) = true := by
  obtain ⟨h1, h2⟩ := sh_all (f := PyData.bool) 1 (fun x => ⟨by simp [PyData.canLay0], by simp [PyData.depth]⟩) a
  exact shaped_of (k := 2) ⟨by unfold lb; rw [PyData.canLay0]; exact h1, by unfold lb; rw [PyData.depth]; omega⟩ (by decide)
theorem v_eqB {a b : List Bool} (q : Q (.d (.bool (decide (a = b)))) S) : dR2 K (rEqD K) (.d (lb a)) (.d (lb b)) S Q := r_eqD (.d _) (.d _) (shaped_lb _) (shaped_lb _) (by rw [eqv_lb]; exact q)
theorem v_neB {a b : List Bool} (q : Q (.d (.bool (!decide (a = b)))) S) : dR2 K (rNeD K) (.d (lb a)) (.d (lb b)) S Q := r_neD (.d _) (.d _) (shaped_lb _) (shaped_lb _) (by rw [eqv_lb]; exact q)
/-- [x for x in bs if x] -/
theorem v_trues {i j : Nat} {bs : List Bool} (hj : Γ[j]? = some (some (.d (lb bs)))) (hi : i < Γ.length) (hz : bs.length < 100000) (q : Q (.d (.list (List.replicate (bs.count true) (.bool true)))) S) : dE K (tLc (iList K (tVar j)) (gName i) (tTest (tVar i)) (tVar i) [i]) Γ S Q := by
  refine v_lc (gw_name (List.mem_singleton.mpr rfl)) (i_D (d_var hj ⟨bs.map .bool, rfl, ?_⟩))
  rw [List.length_map]
  have hg : ∀ b : Va, ((wipeA Γ [i]).set i (some b))[i]? = some (some b) := fun b => by
    rw [List.getElem?_set_self]
    show i < (Γ.set i none).length
    rw [List.length_set]
    exact hi
  refine ⟨fun k acc S' => acc = List.replicate ((bs.take k).count true) (.bool true) ∧ S' = S, ⟨rfl, rfl⟩, fun _ _ _ _ _ => trivial, fun D k acc S' y S2 hk ⟨ea, es⟩ ⟨d, hd, ey, e2⟩ => ?_, fun acc S' ⟨ea, es⟩ => ?_⟩
  · subst ey e2 es
    rw [List.getElem?_map, List.getElem?_eq_getElem hk] at hd
    obtain rfl := Option.some.inj hd
    refine g_name (d_test (d_var (hg _) ⟨_, rfl, fun hb => ?_, fun hb => ⟨_, rfl, ?_, rfl⟩⟩))
    · refine d_var (hg _) ⟨_, _, .d, ?_, ?_, rfl⟩
      · rw [ea, List.length_replicate]
        have := List.count_le_length (a := true) (l := bs.take k)
        rw [List.length_take] at this
        omega
      · rw [ea, List.take_add_one, List.getElem?_eq_getElem hk, hb, List.count_append, ← List.replicate_append_replicate]
        rfl
    · rw [ea, List.take_add_one, List.getElem?_eq_getElem hk, hb, List.count_append]
      rfl
  · rw [es, ea, List.take_of_length_le (Nat.le_refl _)]
    exact q
/-- names' values anew, reckoned -/
theorem g_nameE {i : Nat} {Γ' : Env} {n : Env → Sto → Prop} (e : Γ.set i (some x) = Γ') (h : n Γ' S) : dG K (gName i) x Γ S n := g_name (e ▸ h)
theorem s_parE {i j : Nat} {t : TA} (h : dA K t Γ S fun xs S1 => ∃ x y Γ', xs = [x, y] ∧ (Γ.set i (some x)).set j (some y) = Γ' ∧ N.nx Γ' S1) : dS K (tPar i j t) N Γ S := s_par (h.imp fun xs S1 ⟨x, y, Γ', e, e2, q⟩ => ⟨x, y, e, e2 ▸ q⟩)
theorem d_lcE {wi : TI} {g : TG} {tt : TT} {ws : List Nat} (q : dE K (tLc wi g tt te ws) Γ S Q) : dE K (tLc wi g tt te ws) Γ S Q := q
theorem g_tupD2 {a b : PyData} {k : Nat} {t : TGs} {n : Env → Sto → Prop} (hk : k = 2) (h : dGs K t [.d a, .d b] Γ S n) : dG K (gTup K k t) (.d (.tuple [a, b])) Γ S n := g_tup (.d _) hk.symm h
theorem g_tupD3 {a b c : PyData} {k : Nat} {t : TGs} {n : Env → Sto → Prop} (hk : k = 3) (h : dGs K t [.d a, .d b, .d c] Γ S n) : dG K (gTup K k t) (.d (.tuple [a, b, c])) Γ S n := g_tup (.d _) hk.symm h
theorem g_tupD4 {a b c d : PyData} {k : Nat} {t : TGs} {n : Env → Sto → Prop} (hk : k = 4) (h : dGs K t [.d a, .d b, .d c, .d d] Γ S n) : dG K (gTup K k t) (.d (.tuple [a, b, c, d])) Γ S n := g_tup (.d _) hk.symm h
/-- a def's promise, its answer frozen -/
theorem d_callF {α : Type} {sp : Spec α} {E : XK} {t : TA} {f : α → PyData} (hf : ∀ a S y S', sp.post a S y S' → Frz y S' (f a) S) (h : dA K t Γ S fun xs S1 => ∃ a, sp.pre a xs S1 ∧ Q (.d (f a)) S1) : dE K (tCall (spD K sp) [] E t) Γ S Q :=
  d_frz (d_call (h.imp fun xs S1 ⟨a, p, q⟩ => ⟨a, p, fun x S' k => ⟨_, _, hf a S1 x S' k, q⟩⟩))
end
/-! ### made to be changed -/
def tLstM : TA → TE := tLst
def tLstRgM (te : L2.St → Hp → (Int → Int → Hp → Prop) → Prop) : TE := tLstRg te
def rListOfM (K : PySem.W.Frag) : List V → Hp → VK → Prop := rListOf K
section
variable {X : Cx} {es : List Expr} {t : TA} {pos : Pos} {e : Expr} {te : L2.St → Hp → (Int → Int → Hp → Prop) → Prop}
theorem pe_lstM (h : PA X es t) : PE X (.List es pos) (tLstM t) := pe_lst h
theorem pe_listRgM {p pos : Pos} (hc : X.calm = true) (hg : Gl X "list") (hm : X.mg "list" = none) (he : PRg X e te) (na : starEach [e] X.env = (false, eval e X.env) :: starEach [] X.env := by rfl) : PE X (.Call (.Name "list" p) [e] [] pos) (tLstRgM te) := pe_listRg hc hg hm he na
theorem kListM (K : PySem.W.Frag) (h : X.K = K := by rfl) : CallR X (.type "list") (rListOfM K) := kList K h
end
section
variable {K : PySem.W.Frag} {S S' : Sto} {Γ : Env} {x y z : Va} {Q : QE} {te ta tb tc : TE}
theorem d_lstM {t : TA} (h : dA K t Γ S fun xs S1 => xs.length ≤ sizeLine ∧ ∀ p, Q (.r p) ((p, .lst xs) :: S1)) : dE K (tLstM t) Γ S Q := d_lst h
theorem d_listRgM {t : L2.St → Hp → (Int → Int → Hp → Prop) → Prop} (h : dRg K t Γ S fun a b S1 => RgOk a b ∧ ∀ p, Q (.r p) ((p, .lst (rgA a b)) :: S1)) : dE K (tLstRgM t) Γ S Q := d_listRg h
theorem v_oneM (h : dE K te Γ S fun x S1 => ∀ p, Q (.r p) ((p, .lst [x]) :: S1)) : dE K (tLstM (tCons te tNil)) Γ S Q := d_lstM (d_acons (h.imp fun x S1 q => d_anil ⟨by show 1 ≤ sizeLine; decide, q⟩))
/-- the empty list, to be filled -/
theorem v_nilM (q : ∀ p, Q (.r p) ((p, .lst []) :: S)) : dE K (tLstM tNil) Γ S Q := d_lstM (d_anil ⟨by show 0 ≤ sizeLine; decide, q⟩)
theorem v_listIM {ns : List Int} (q : ∀ p, Q (.r p) ((p, .lst (vi ns)) :: S)) : dRL K (rListOfM K) [.d (li ns)] S Q := r_list (liLst (.d _)) q
theorem v_listRgM (h : dE K te Γ S fun x S1 => ∃ n : Int, x = .d (.int n) ∧ (-100000 ≤ n ∧ n ≤ 100000) ∧ ∀ p, Q (.r p) ((p, .lst (vi (rg n))) :: S1)) : dE K (tLstRgM (tRg1 te)) Γ S Q :=
  d_listRg (rg_1 (h.imp fun x S1 ⟨n, e, ⟨h1, h2⟩, q⟩ => ⟨n, e, rgOk_of (by omega) (by omega) (by omega) (by omega), fun p => by rw [rgA_vi]; exact q p⟩))
end
/-! ### isinstance, zip, of data -/
def isL : PyData → Bool
  | .list _ => true
  | _ => false
def isTu : PyData → Bool
  | .tuple _ => true
  | _ => false
def isBo : PyData → Bool
  | .bool _ => true
  | _ => false
def isIn : PyData → Bool
  | .int _ => true
  | .bool _ => true
  | _ => false
theorem kit_L {K : PySem.W.Frag} : ∀ d : PyData, PySem.W.kitOne K (.type (tyD d)) (.type "list") = some (isL d)
  | .none => kit_ty (show kitB "NoneType" "list" = some false from by decide +kernel)
  | .bool b => kit_ty (show kitB "bool" "list" = some false from by decide +kernel)
  | .int i => kit_ty (show kitB "int" "list" = some false from by decide +kernel)
  | .str s => kit_ty (show kitB "str" "list" = some false from by decide +kernel)
  | .list ds => kit_ty (show kitB "list" "list" = some true from by decide +kernel)
  | .tuple ds => kit_ty (show kitB "tuple" "list" = some false from by decide +kernel)
  | .dict ds => kit_ty (show kitB "dict" "list" = some false from by decide +kernel)
theorem kit_Tu {K : PySem.W.Frag} : ∀ d : PyData, PySem.W.kitOne K (.type (tyD d)) (.type "tuple") = some (isTu d)
  | .none => kit_ty (show kitB "NoneType" "tuple" = some false from by decide +kernel)
  | .bool b => kit_ty (show kitB "bool" "tuple" = some false from by decide +kernel)
  | .int i => kit_ty (show kitB "int" "tuple" = some false from by decide +kernel)
  | .str s => kit_ty (show kitB "str" "tuple" = some false from by decide +kernel)
  | .list ds => kit_ty (show kitB "list" "tuple" = some false from by decide +kernel)
  | .tuple ds => kit_ty (show kitB "tuple" "tuple" = some true from by decide +kernel)
  | .dict ds => kit_ty (show kitB "dict" "tuple" = some false from by decide +kernel)
theorem kit_Bo {K : PySem.W.Frag} : ∀ d : PyData, PySem.W.kitOne K (.type (tyD d)) (.type "bool") = some (isBo d)
  | .none => kit_ty (show kitB "NoneType" "bool" = some false from by decide +kernel)
  | .bool b => kit_ty (show kitB "bool" "bool" = some true from by decide +kernel)
  | .int i => kit_ty (show kitB "int" "bool" = some false from by decide +kernel)
  | .str s => kit_ty (show kitB "str" "bool" = some false from by decide +kernel)
  | .list ds => kit_ty (show kitB "list" "bool" = some false from by decide +kernel)
  | .tuple ds => kit_ty (show kitB "tuple" "bool" = some false from by decide +kernel)
  | .dict ds => kit_ty (show kitB "dict" "bool" = some false from by decide +kernel)
theorem kit_In {K : PySem.W.Frag} : ∀ d : PyData, PySem.W.kitOne K (.type (tyD d)) (.type "int") = some (isIn d)
  | .none => kit_ty (show kitB "NoneType" "int" = some false from by decide +kernel)
  | .bool b => kit_ty (show kitB "bool" "int" = some true from by decide +kernel)
  | .int i => kit_ty (show kitB "int" "int" = some true from by decide +kernel)
  | .str s => kit_ty (show kitB "str" "int" = some false from by decide +kernel)
  | .list ds => kit_ty (show kitB "list" "int" = some false from by decide +kernel)
  | .tuple ds => kit_ty (show kitB "tuple" "int" = some false from by decide +kernel)
  | .dict ds => kit_ty (show kitB "dict" "int" = some false from by decide +kernel)
theorem kIsiT {X : Cx} (K : PySem.W.Frag) (h : X.K = K := by rfl) : CallR X (.builtin "isinstance") (rIsiT K) := h ▸ call_isiT
theorem kPiZA {X : Cx} {e1 e2 : Expr} {ta : TA} {p pos tpos : Pos} {elts : List Expr} {kk : Nat} (K : PySem.W.Frag) (hg : Gl X "zip") (hm : X.mg "zip" = none) (ha : PA X [e1, e2] ta) (h : X.K = K := by rfl)
    (hs : starEach [e1, e2] X.env = (false, eval e1 X.env) :: starEach [e2] X.env := by rfl) (hpl : (backTo pos (starEach [e2] X.env)).any (·.1) = false := by rfl) :
    PI X (.Tuple elts kk tpos) (.Call (.Name "zip" p) [e1, e2] [] pos) (RZ.iZipA K ta) := h ▸ RZ.pi_zipA hg hm ha hs hpl
section
variable {K : PySem.W.Frag} {F F' H H' : Hp} {S S' : Sto} {Γ : Env} {x y z : Va} {Q : QE} {te ta tb tc : TE}
theorem v_isL {d : PyData} (q : Q (.d (.bool (isL d))) S) : dRL K (rIsi K) [.d d, .o (.ty "list")] S Q := r_isi (.d _) (kit_L d) q
theorem v_isTu {d : PyData} (q : Q (.d (.bool (isTu d))) S) : dRL K (rIsi K) [.d d, .o (.ty "tuple")] S Q := r_isi (.d _) (kit_Tu d) q
theorem v_isBo {d : PyData} (q : Q (.d (.bool (isBo d))) S) : dRL K (rIsi K) [.d d, .o (.ty "bool")] S Q := r_isi (.d _) (kit_Bo d) q
theorem v_isIn {d : PyData} (q : Q (.d (.bool (isIn d))) S) : dRL K (rIsi K) [.d d, .o (.ty "int")] S Q := r_isi (.d _) (kit_In d) q
/-- isinstance(e, (list, tuple)) -/
theorem v_isLT (h : dE K te Γ S fun x S1 => ∃ d, x = .d d ∧ Q (.d (.bool (isL d || isTu d))) S1) : dE K (tCB (rIsiT K) (tCons te (tCons (tTup (tCons (tC (.ty "list")) (tCons (tC (.ty "tuple")) tNil))) tNil))) Γ S Q := fun σ F H s c Q' p =>
  h σ F H s c _ fun v F1 H1 x S1 e1 c1 o1 ⟨d, ex, q⟩ => by
    subst ex
    refine ⟨show 2 ≤ sizeLine by decide, fun a ha => ?_⟩
    refine ⟨v, a, [.ty "list", .ty "tuple"], .type (tyD d), [.type "list", .type "tuple"], isL d || isTu d, rfl, upd_same, .cons (.ty "list") (.cons (.ty "tuple") .nil), (At.mono (same_new ha) (At.mono c1.ex o1)).ty, ?_, ?_⟩
    · refine kitAny_cons (kit_L d) (fun e => kitAny_cons (kit_Tu d) (fun e2 => ?_) fun e2 => ?_) fun e => ?_
      · rw [e, e2]
        rfl
      · rw [e2, Bool.or_true]
      · rw [e, Bool.true_or]
    · exact p _ F1 _ _ S1 e1 (c1.newT ha (.cons (okO : VaOk K F1 (.o (.ty "list")) _) (.cons (okO : VaOk K F1 (.o (.ty "tuple")) _) .nil))).tail (okD (.bl _)) q
/-- zip of two lists, of two tuples -/
def seqD : PyData → Option (List PyData)
  | .list ds => some ds
  | .tuple ds => some ds
  | _ => none
theorem i_zipA {t : TA} {R} (h : dA K t Γ S fun zs S1 => ∃ ds es, (zs = [.d (.list ds), .d (.list es)] ∨ zs = [.d (.tuple ds), .d (.tuple es)]) ∧ ds.length = es.length ∧ R ds.length (fun _ => True) (fun i y S S' => ∃ T d e, ds[i]? = some d ∧ es[i]? = some e ∧ y = .r T ∧ S' = (T, .tup [.d d, .d e]) :: S) S1) : dI K (RZ.iZipA K t) Γ S R := fun σ F H s c R' p =>
  h σ F H s c _ fun ws F1 H1 zs S1 e1 c1 o1 ⟨ds, es, ez, hlen, q⟩ => by
    have get : ∀ {vs : List V} {ds : List PyData} {F : Hp} {i : Nat}, AtAll K F vs ds → i < ds.length → ∃ v d, vs[i]? = some v ∧ ds[i]? = some d ∧ At K F v d := fun {vs ds F i} h hi => by
      obtain ⟨v, hv, hd⟩ := pgetr (atAll_to h) (List.getElem?_eq_getElem hi)
      exact ⟨v, _, hv, List.getElem?_eq_getElem hi, hd⟩
    rcases ez with ez | ez
    · subst ez
      obtain _ | ⟨o1, _ | ⟨o1', _ | _⟩⟩ := o1
      cases o1 with
      | @lst a vs _ h1 h2 =>
        cases o1' with
        | @lst b us _ h1' h2' =>
          refine ⟨a, b, vs, us, rfl, .inl ⟨same_l c1.ex h1, same_l c1.ex h1', p _ _ _ _ F1 H1 S1 e1 c1 ?_ q⟩⟩
          intro i F H S e c k
          have g1 := same_l (e.trans c.ex) h1
          have g2 := same_l (e.trans c.ex) h1'
          have l1 := (atAll_to h2).length
          have l2 := (atAll_to h2').length
          refine ⟨fun hi => ⟨vs, us, g1, g2, .inl (by rw [l1]; exact hi)⟩, fun hi => ?_⟩
          obtain ⟨u, d, hu, hd, ou⟩ := get h2 hi
          obtain ⟨u', d', hu', hd', ou'⟩ := get h2' (show i < es.length by omega)
          refine ⟨⟨vs, us, u, u', g1, g2, hu, hu'⟩, fun w H' ⟨T, u1, u2, ew, hT, eh, f, f'⟩ => ?_⟩
          subst eh; subst ew
          have z1 := f vs g1
          rw [hu] at z1
          cases z1
          have z2 := f' us g2
          rw [hu'] at z2
          cases z2
          exact ⟨F, _, _, .refl F, c.newT hT (.cons (okD (At.mono e ou)) (.cons (okD (At.mono e ou')) .nil)), okR, T, d, d', hd, hd', rfl, rfl⟩
    · subst ez
      obtain _ | ⟨o1, _ | ⟨o1', _ | _⟩⟩ := o1
      cases o1 with
      | @tup a vs _ h1 h2 =>
        cases o1' with
        | @tup b us _ h1' h2' =>
          refine ⟨a, b, vs, us, rfl, .inr ⟨SqT.of (c1.ex _ _ h1), SqT.of (c1.ex _ _ h1'), p _ _ _ _ F1 H1 S1 e1 c1 ?_ q⟩⟩
          intro i F H S e c k
          have g1 : SqT K H a vs := SqT.of ((e.trans c.ex) _ _ h1)
          have g2 : SqT K H b us := SqT.of ((e.trans c.ex) _ _ h1')
          have l1 := (atAll_to h2).length
          have l2 := (atAll_to h2').length
          refine ⟨fun hi => ⟨vs, us, g1, g2, .inl (by rw [l1]; exact hi)⟩, fun hi => ?_⟩
          obtain ⟨u, d, hu, hd, ou⟩ := get h2 hi
          obtain ⟨u', d', hu', hd', ou'⟩ := get h2' (show i < es.length by omega)
          refine ⟨⟨vs, us, u, u', g1, g2, hu, hu'⟩, fun w H' ⟨T, u1, u2, ew, hT, eh, f, f'⟩ => ?_⟩
          subst eh; subst ew
          have z1 := f vs g1
          rw [hu] at z1
          cases z1
          have z2 := f' us g2
          rw [hu'] at z2
          cases z2
          exact ⟨F, _, _, .refl F, c.newT hT (.cons (okD (At.mono e ou)) (.cons (okD (At.mono e ou')) .nil)), okR, T, d, d', hd, hd', rfl, rfl⟩
theorem v_lenD {d : PyData} {ds : List PyData} (h : seqD d = some ds) (q : Q (.d (.int (ds.length : Nat))) S) : dRL K (rLen K) [.d d] S Q := by
  cases d <;> simp only [seqD] at h <;> first | cases h | skip
  · exact v_len q
  · exact r_lenT (.d _) (by rw [List.length_map]; exact q)
theorem v_all {n : Nat} (q : Q (.d (.bool true)) S) : dRL K (rAll K) [.d (.list (List.replicate n (.bool true)))] S Q := by
  refine r_all (bs := List.replicate n true) (by rw [List.map_replicate]; exact .d _) ?_
  have : (List.replicate n true).all id = true := List.all_eq_true.mpr fun x hx => by rw [List.eq_of_mem_replicate hx]; rfl
  rw [this]
  exact q
end
/-- no promise at all -/
theorem fnG_void {P : Program} {w : World} {K : PySem.W.Frag} {mg : Str → Option Value} {base : Heap} {CX : CXT} {k : Nat} {f : Addr} {fd : FuncData} {ps : List Str} {α : Type} {sp : Spec α} (h : ∀ a xs S, ¬ sp.pre a xs S) : FnG P w K mg base CX k f fd ps (spD K sp) :=
  ⟨fun vs H Q E ⟨F, xs, S, a, _, _, p, _⟩ => (h a xs S p).elim, fun A outer s H args us vs Q E _ _ _ _ _ ⟨F, xs, S, a, _, _, p, _⟩ => (h a xs S p).elim⟩
/-- plain data, so deep at most -/
def Pln : Nat → PyData → Prop
  | 0, d => flatD d = true ∧ SeqAt.shaped d = true
  | m + 1, d => (flatD d = true ∧ SeqAt.shaped d = true) ∨ ∃ ds, seqD d = some ds ∧ ds.length ≤ 10000 ∧ ∀ e ∈ ds, Pln m e
theorem pln_int (m : Nat) (i : Int) : Pln m (.int i) := by cases m; exact ⟨rfl, rfl⟩; exact .inl ⟨rfl, rfl⟩
theorem pln_bool (m : Nat) (i : Bool) : Pln m (.bool i) := by cases m; exact ⟨rfl, rfl⟩; exact .inl ⟨rfl, rfl⟩
theorem pln_none (m : Nat) : Pln m .none := by cases m; exact ⟨rfl, rfl⟩; exact .inl ⟨rfl, rfl⟩
theorem pln_li {m : Nat} {ns : List Int} (h : ns.length ≤ 10000) : Pln (m + 1) (li ns) := .inr ⟨_, rfl, by rw [List.length_map]; exact h, fun e he => by
  obtain ⟨n, _, rfl⟩ := List.mem_map.mp he
  exact pln_int m n⟩
theorem pln_lb {m : Nat} {ns : List Bool} (h : ns.length ≤ 10000) : Pln (m + 1) (lb ns) := .inr ⟨_, rfl, by rw [List.length_map]; exact h, fun e he => by
  obtain ⟨n, _, rfl⟩ := List.mem_map.mp he
  exact pln_bool m n⟩
theorem pln_l {m : Nat} {ds : List PyData} (h : ds.length ≤ 10000) (h2 : ∀ e ∈ ds, Pln m e) : Pln (m + 1) (.list ds) := .inr ⟨_, rfl, h, h2⟩
theorem pln_t {m : Nat} {ds : List PyData} (h : ds.length ≤ 10000) (h2 : ∀ e ∈ ds, Pln m e) : Pln (m + 1) (.tuple ds) := .inr ⟨_, rfl, h, h2⟩
end DL

/-! DM: dicts whose keys are tuples of ints, their values anything; truth of lists. -/
namespace DL
open PySem PySem.Spec PyProof.Rows L2

/-- a tuple of ints -/
def tI (ks : List Int) : PyData := .tuple (ks.map .int)
section
variable {K : PySem.W.Frag} {F F' H H' : Hp} {S S' : Sto} {Γ : Env} {σ : L2.St} {x y z : Va} {v : V} {Q : QE} {te ta tb td ty tk tv : TE} {N : DEnds}
theorem valV_dt {F : Hp} (k : List Int) : ∀ {D : Dt} {vs : List V}, Paired (VaOk K F) (D.map (·.2)) vs → (getT D k = none ∧ valV (dtvK (D.map (·.1)) vs) (kT k) = none) ∨ ∃ x v, getT D k = some x ∧ valV (dtvK (D.map (·.1)) vs) (kT k) = some v ∧ VaOk K F x v
  | [], _, _ => .inl ⟨rfl, rfl⟩
  | p :: D, _, .cons (b := u) (l₂ := us) h t => by
    have ih := valV_dt k t
    unfold valV getT dtvK at ih ⊢
    rw [List.map_cons, List.map_cons, List.zip_cons_cons, List.find?_cons, List.find?_cons]
    dsimp only
    have e : decide (List.map Sum.inl p.1 = kT k) = decide (p.1 = k) := kT_dec p.1 k
    rw [e]
    by_cases c : p.1 = k
    · rw [decide_eq_true c]
      exact .inr ⟨p.2, u, rfl, rfl, h⟩
    · rw [decide_eq_false c]
      exact ih
theorem any_dt (k : List Int) : ∀ {D : Dt} {vs : List V}, Paired (VaOk K F) (D.map (·.2)) vs → ((dtvK (D.map (·.1)) vs).any fun kv => decide (kv.1 = kT k)) = D.any fun p => decide (p.1 = k)
  | [], _, _ => rfl
  | p :: D, _, .cons (l₂ := us) h t => by
    have ih := any_dt k t
    unfold dtvK at ih ⊢
    rw [List.map_cons, List.map_cons, List.zip_cons_cons, List.any_cons, List.any_cons, ih]
    have e : decide (List.map Sum.inl p.1 = kT k) = decide (p.1 = k) := kT_dec p.1 k
    dsimp only
    rw [e]
theorem put_dt {k : List Int} {x : Va} {v : V} (o : VaOk K F x v) {D : Dt} {vs : List V} (r : Paired (VaOk K F) (D.map (·.2)) vs) : ∃ vs', putK (dtvK (D.map (·.1)) vs) (kT k) v = dtvK ((putT D k x).map (·.1)) vs' ∧ Paired (VaOk K F) ((putT D k x).map (·.2)) vs' := by
  unfold putK putT
  rw [any_dt k r]
  split
  · next hany =>
    clear hany
    generalize e : D.map (·.2) = xs at r
    induction r generalizing D with
    | nil =>
      cases D with
      | nil => exact ⟨[], rfl, .nil⟩
      | cons p D => cases e
    | @cons y u ys us h t ih =>
      cases D with
      | nil => cases e
      | cons p D =>
        rw [List.map_cons, List.cons.injEq] at e
        obtain ⟨rfl, e⟩ := e
        obtain ⟨vs', e1, r1⟩ := ih e
        unfold dtvK at e1 ⊢
        by_cases c : p.1 = k
        · refine ⟨v :: vs', ?_, ?_⟩
          · simp only [List.map_cons, List.zip_cons_cons]
            rw [if_pos (show List.map Sum.inl p.1 = kT k by rw [c]; rfl), if_pos c, ← e1]
          · rw [List.map_cons, List.map_cons, if_pos c]
            exact .cons o r1
        · refine ⟨u :: vs', ?_, ?_⟩
          · simp only [List.map_cons, List.zip_cons_cons]
            rw [if_neg (fun z => c (kT_inj z) : ¬ List.map Sum.inl p.1 = kT k), if_neg c, ← e1]
          · rw [List.map_cons, List.map_cons, if_neg c]
            exact .cons h r1
  · refine ⟨vs ++ [v], ?_, ?_⟩
    · unfold dtvK
      rw [List.map_append, List.map_append, List.zip_append (by rw [List.length_map, List.length_map, ← r.length, List.length_map])]
      rfl
    · rw [List.map_append]
      exact papp r (.cons o .nil)
theorem dtvK_len {D : Dt} {vs : List V} (r : Paired (VaOk K F) (D.map (·.2)) vs) : (dtvK (D.map (·.1)) vs).length = D.length := by
  unfold dtvK
  have := r.length
  rw [List.length_map] at this
  rw [List.length_zip, List.length_map, List.length_map]
  omega
theorem key_tupD {ks : List Int} {v : V} (c : Same F H) (h : At K F v (tI ks)) : ∃ b, v = .ref b ∧ H b = some (.tup ((kT ks).map L2.kV)) := by
  cases h with
  | @tup a vs _ e t =>
    refine ⟨a, rfl, ?_⟩
    have := ints_of t
    subst this
    rw [c _ _ e]
    unfold kT
    rw [List.map_map]
    rfl
theorem get_dt (c : Cf K S F H) {a : Addr} {D : Dt} {ks : List Int} {v : V} (m : (a, Ce.dtv D) ∈ S) (h : At K F v (tI ks)) : (getT D ks = none ∧ DGet H a v none) ∨ ∃ x w, getT D ks = some x ∧ DGet H a v (some w) ∧ VaOk K F x w := by
  obtain ⟨vs, e, r⟩ := c.ok _ m
  obtain ⟨b, rfl, eb⟩ := key_tupD c.ex h
  have g := DGet.t e eb
  rcases valV_dt ks r with ⟨h1, h2⟩ | ⟨x, w, h1, h2, o⟩
  · rw [h2] at g
    exact .inl ⟨h1, g⟩
  · rw [h2] at g
    exact .inr ⟨x, w, h1, g, o⟩
theorem d_dnewV (q : ∀ p, Q (.r p) ((p, .dtv []) :: S)) : dE K tDNewT Γ S Q := fun σ F H s c Q' p a ha => by
  refine p _ F _ _ _ (.refl F) ?_ okR (q a)
  obtain ⟨h1, h2⟩ := c.fresh ha
  refine ⟨c.ex.trans (same_new ha), List.nodup_cons.mpr ⟨h1, c.nd⟩, fun q hq => ?_, fun q hq => ?_⟩
  · rcases List.mem_cons.mp hq with rfl | hq
    · exact h2
    · exact c.fr q hq
  · rcases List.mem_cons.mp hq with rfl | hq
    · exact ⟨[], upd_same, .nil⟩
    · exact (c.ok q hq).grow (same_new ha)
theorem d_dgetV (h : dE K td Γ S fun x S1 => dE K ty Γ S1 fun y S2 => ∃ a D ks w, x = .r a ∧ (a, Ce.dtv D) ∈ S2 ∧ y = .d (tI ks) ∧ getT D ks = some w ∧ Q w S2) : dE K (tDGet td ty) Γ S Q := fun σ F H s c Q' p =>
  h σ F H s c _ fun v F1 H1 x S1 e1 c1 o1 h1 => h1 σ F1 H1 (s.mono e1) c1 _ fun u F2 H2 y S2 e2 c2 o2 ⟨a, D, ks, w, ex, m, ey, hg, q⟩ => by
    subst ex ey
    cases o1
    rcases get_dt c2 m o2 with ⟨h3, _⟩ | ⟨x, w', h3, g, o⟩
    · rw [h3] at hg
      cases hg
    · rw [h3] at hg
      cases hg
      exact ⟨a, w', rfl, g, p _ F2 H2 _ S2 (e1.trans e2) c2 o q⟩
theorem d_dinV (h : dE K ty Γ S fun y S1 => dE K td Γ S1 fun x S2 => ∃ a D ks, x = .r a ∧ (a, Ce.dtv D) ∈ S2 ∧ y = .d (tI ks) ∧ Q (.d (.bool (getT D ks).isSome)) S2) : dE K (tDIn ty td) Γ S Q := fun σ F H s c Q' p =>
  h σ F H s c _ fun v F1 H1 y S1 e1 c1 o1 h1 => h1 σ F1 H1 (s.mono e1) c1 _ fun u F2 H2 x S2 e2 c2 o2 ⟨a, D, ks, ex, m, ey, q⟩ => by
    subst ex ey
    cases o2
    rcases get_dt c2 m (At.mono e2 o1) with ⟨h3, g⟩ | ⟨x, w', h3, g, o⟩
    · refine ⟨a, _, rfl, g, p _ F2 H2 _ S2 (e1.trans e2) c2 (okD (.bl _)) ?_⟩
      rw [h3] at q
      exact q
    · refine ⟨a, _, rfl, g, p _ F2 H2 _ S2 (e1.trans e2) c2 (okD (.bl _)) ?_⟩
      rw [h3] at q
      exact q
theorem d_dnotinV (h : dE K ty Γ S fun y S1 => dE K td Γ S1 fun x S2 => ∃ a D ks, x = .r a ∧ (a, Ce.dtv D) ∈ S2 ∧ y = .d (tI ks) ∧ Q (.d (.bool (!(getT D ks).isSome))) S2) : dE K (tDNotIn ty td) Γ S Q := fun σ F H s c Q' p =>
  h σ F H s c _ fun v F1 H1 y S1 e1 c1 o1 h1 => h1 σ F1 H1 (s.mono e1) c1 _ fun u F2 H2 x S2 e2 c2 o2 ⟨a, D, ks, ex, m, ey, q⟩ => by
    subst ex ey
    cases o2
    rcases get_dt c2 m (At.mono e2 o1) with ⟨h3, g⟩ | ⟨x, w', h3, g, o⟩
    · refine ⟨a, _, rfl, g, p _ F2 H2 _ S2 (e1.trans e2) c2 (okD (.bl _)) ?_⟩
      rw [h3] at q
      exact q
    · refine ⟨a, _, rfl, g, p _ F2 H2 _ S2 (e1.trans e2) c2 (okD (.bl _)) ?_⟩
      rw [h3] at q
      exact q
theorem Cf.updV (c : Cf K S F H) {a : Addr} {c0 : Ce} {D : Dt} (u : Upd S a c0 (.dtv D) S') {vs : List V} (h : Paired (VaOk K F) (D.map (·.2)) vs) : Cf K S' F (upd H a (.dT (dtvK (D.map (·.1)) vs))) := by
  have fa : F a = none := c.fr _ u.mem
  refine ⟨fun b o e => ?_, by rw [u.keys]; exact c.nd, fun q hq => ?_, fun q hq => ?_⟩
  · rw [upd_ne (ne_of_none e fa)]
    exact c.ex b o e
  · rcases u.back c.nd hq with rfl | ⟨_, m⟩
    · exact fa
    · exact c.fr q m
  · rcases u.back c.nd hq with rfl | ⟨n, m⟩
    · exact ⟨vs, upd_same, h⟩
    · exact (c.ok q m).off n
theorem g_dsetV {n : Env → Sto → Prop} (h : dE K ta Γ S fun o S1 => dE K tb Γ S1 fun i S2 => ∃ a D ks S', o = .r a ∧ i = .d (tI ks) ∧ Upd S2 a (.dtv D) (.dtv (putT D ks x)) S' ∧ D.length < 100000 ∧ n Γ S') : dG K (gSub ta tb rSetD) x Γ S n := fun v σ F H s c o Q' p =>
  h σ F H s c _ fun v1 F1 H1 x1 S1 e1 c1 o1 h1 => h1 σ F1 H1 (s.mono e1) c1 _ fun v2 F2 H2 x2 S2 e2 c2 o2 ⟨a, D, ks, S', ea, ei, u, hz, q⟩ => by
    subst ea ei
    cases o1
    obtain ⟨vs, e, r⟩ := c2.ok _ u.mem
    obtain ⟨b, rfl, eb⟩ := key_tupD c2.ex o2
    obtain ⟨vs', ep, r'⟩ := put_dt (k := ks) (o.mono (e1.trans e2)) r
    refine ⟨a, upd H2 a (.dT (putK (dtvK (D.map (·.1)) vs) (kT ks) v)), rfl, DPut.t e eb (by rw [dtvK_len r]; exact sz_lt hz), ?_⟩
    rw [ep]
    exact p _ F2 _ _ S' (e1.trans e2) (s.mono (e1.trans e2)) (c2.updV u r') q
end
/-! ### {k: v}, k a tuple -/
def tDispT (tk tv : TE) : TE := fun σ H Q => ∀ p, H p = none → tk σ (upd H p (.dT [])) fun kx H2 => tv σ H2 fun vx H3 => H3 p = some (.dT []) ∧ ∃ ks b, kx = .ref b ∧ H3 b = some (.tup (ks.map L2.kV)) ∧ Q (.ref p) (upd H3 p (.dT [(ks, vx)]))
theorem pe_dispT {X : Cx} {k v : Expr} {tk tv : TE} {pos : Pos} (hu : X.A.units + 1 < cLine) (hk : PE X k tk) (hv : PE X v tv) (hshape : (evalEachOpt [some k] X.env).zip ((evalEach [v] X.env).map fun v => do let x ← v; standAt pos; pure x) = (pairTrees [some k] [v] X.env pos).map fun p => (some p.1, p.2) := by rfl)
    (h0 : pairTrees [some k] [v] X.env pos ≠ [] := by exact List.cons_ne_nil _ _) (hl : (pairTrees [some k] [v] X.env pos).length ≤ 15 := by exact Nat.le_of_ble_eq_true rfl) : PE X (.Dict [some k] [v] pos) (tDispT tk tv) := by
  refine ⟨fun pins s σ H Q I q => ?_⟩
  have hn := I.hok.fresh (Nat.le_refl s.heap.objs.size)
  have I1 := I.laid (a := s.heap.objs.size) (o := .dT []) (h' := s.heap.push { cls := .type "dict", data := .dict #[] }) (t' := s.toks) (fun _ _ q => Heap.get?_push_of_some _ q) (Nat.le_refl _) (dt_empty s.heap I.big)
  rw [arm_eval_Dict, hshape, dictDisplay_pairs _ h0 (by omega)]
  have run := (pps_cons hk hv pps_nil : PPs X pos [some k] [v] [(tk, tv)]).run pins _ σ _ (fun ps H3 => match ps with
    | [(kx, vx)] => H3 s.heap.objs.size = some (.dT []) ∧ ∃ ks b, kx = .ref b ∧ H3 b = some (.tup (ks.map L2.kV)) ∧ Q (.ref s.heap.objs.size) (upd H3 s.heap.objs.size (.dT [(ks, vx)]))
    | _ => False) I1 (q _ hn)
  refine wpAny_bind (wpAny_standAt (wpAny_bind (wpAny_subDictH (knd := tupleKind (mixKind X.prog X.w)) (show X.A.units < cLine by omega) hl (thn run ?_))))
  rintro ws s2 ⟨ps, H2, I2, rel, hq⟩
  match ps, ws, rel, hq with
  | [(kx, vx)], [(u, w)], .cons h .nil, ⟨e, ks, b, ek, eb, q2⟩ =>
    subst ek
    obtain ⟨h1, h2⟩ := h
    obtain rfl : u = Value.ref b := h1
    obtain ⟨z, hd, xs, rel0, dd⟩ := dt_of I2.hok e
    cases rel0
    have hb : b ≠ s.heap.objs.size := ne_of eb e (fun z => nomatch z)
    refine ⟨[(ks, b, w)], ⟨rfl, rfl, key_of I2.hok eb, trivial⟩, dd, fun h' t' dd' hs => wpAny_pure ⟨.ref _, _, ?_, rfl, q2⟩⟩
    obtain ⟨ob, es, ep, hq, k2, k3, k4, _, k5⟩ := dd'
    refine d_write I2 (by rw [e]; exact True.intro) hs ⟨ob, hq⟩ ⟨?_, hd, [(ks, b, w)], .cons ⟨rfl, ?_, h2⟩ .nil, ob, es, ep, hq, k2, k3, k4, k5⟩
    · show 1 ≤ sizeLine
      decide
    · show upd H2 _ _ b = _
      rw [upd_ne hb]
      exact eb
section
variable {K : PySem.W.Frag} {S S' : Sto} {Γ : Env} {x y z : Va} {Q : QE} {te ta tb td ty tk tv : TE} {N : DEnds}
theorem d_dispT (h : ∀ p, dE K tk Γ ((p, .dtv []) :: S) fun x S1 => dE K tv Γ S1 fun y S2 => ∃ ks S3, x = .d (tI ks) ∧ Upd S2 p (.dtv []) (.dtv [(ks, y)]) S3 ∧ Q (.r p) S3) : dE K (tDispT tk tv) Γ S Q := fun σ F H s c Q' p a ha => by
  have c0 : Cf K ((a, .dtv []) :: S) F (upd H a (.dT [])) := by
    obtain ⟨h1, h2⟩ := c.fresh ha
    refine ⟨c.ex.trans (same_new ha), List.nodup_cons.mpr ⟨h1, c.nd⟩, fun q hq => ?_, fun q hq => ?_⟩
    · rcases List.mem_cons.mp hq with rfl | hq
      · exact h2
      · exact c.fr q hq
    · rcases List.mem_cons.mp hq with rfl | hq
      · exact ⟨[], upd_same, .nil⟩
      · exact (c.ok q hq).grow (same_new ha)
  refine h a σ F _ s c0 _ fun v F1 H1 x S1 e1 c1 o1 h1 => h1 σ F1 H1 (s.mono e1) c1 _ fun u F2 H2 y S2 e2 c2 o2 ⟨ks, S3, ex, up, q⟩ => ?_
  subst ex
  obtain ⟨vs, e, r⟩ := c2.ok _ up.mem
  cases r
  obtain ⟨b, rfl, eb⟩ := key_tupD c2.ex (At.mono e2 o1)
  refine ⟨e, kT ks, b, rfl, eb, ?_⟩
  exact p _ F2 _ _ S3 (e1.trans e2) (c2.updV up (.cons o2 .nil)) okR q
/-! ### truth -/
def trD : PyData → Option Bool
  | .none => some false
  | .bool b => some b
  | .int i => some (i != 0)
  | .list ds => some (!ds.isEmpty)
  | .tuple ds => some (!ds.isEmpty)
  | _ => none
def tTru (K : PySem.W.Frag) (te : TE) : TT := fun σ H Q => te σ H fun x H' => ∃ k, TruV K x H' k ∧ Q k H'
theorem isEmpty_p {α β : Type} {R : α → β → Prop} {xs : List α} {ys : List β} (h : Paired R xs ys) : (!xs.isEmpty) = !ys.isEmpty := by cases h <;> rfl
theorem d_tru {Q : Bool → Sto → Prop} (h : dE K te Γ S fun x S1 => ∃ b, ((∃ d, x = .d d ∧ trD d = some b) ∨ ∃ a xs, x = .r a ∧ (a, Ce.lst xs) ∈ S1 ∧ b = !xs.isEmpty) ∧ Q b S1) : dT K (tTru K te) Γ S Q := fun σ F H s c Q' p =>
  h σ F H s c _ fun v F1 H1 x S1 e1 c1 o1 ⟨b, hb, q⟩ => by
    refine ⟨b, ?_, p b F1 H1 S1 e1 c1 q⟩
    rcases hb with ⟨d, rfl, hd⟩ | ⟨a, xs, rfl, m, rfl⟩
    · have o := At.mono c1.ex o1
      cases o with
      | non => exact (Option.some.inj hd).symm
      | bl b => exact (Option.some.inj hd).symm
      | int i => exact (Option.some.inj hd).symm
      | str x => cases hd
      | lst g t => exact .inl ⟨_, g, by rw [← Option.some.inj hd]; exact (isEmpty_p (atAll_to t)).symm⟩
      | tup g t => exact .inr (.inl ⟨_, SqT.of g, by rw [← Option.some.inj hd]; exact (isEmpty_p (atAll_to t)).symm⟩)
      | dct g t => cases hd
    · obtain ⟨vs, e, r⟩ := c1.ok _ m
      cases o1
      exact .inl ⟨vs, SqL.of e, isEmpty_p r⟩
end
theorem kTru {X : Cx} {a : Expr} {ta : TE} (K : PySem.W.Frag) (ha : PE X a ta) (he : ∀ whole, isTrue a X.env whole = (do let v ← whole; standAt a.pos; holding [v] (truthy v))) (h : X.K = K := by rfl) : PT X a (tTru K ta) := h ▸ pt_truth ha he
end DL

/-! EXN: an own exception of one field, its __init__ with super(). -/
namespace EXN
open PySem PySem.W PySem.Calls PyProof.Rows PySem.HandSPX
section
variable {prog : Program} {w : World} {A : Around} {E : Value → Shared → Prop} {h : Heap} {g : Array GenState} {d : Drawn} {tk : Nat} {os : OsState}
theorem call_mw {B newId i : String} {bmB : List Value} {nm qn : Str} {C N' x u t0 : Addr} {bs bm : List Value} {hdct : Bool} {sn : List Str} {sub : List Value} {ab : Bool} {col : Option Bool} {dd : Option Addr} {k0 k1 k2 k3 k5 : Option Value} {rest : List Value} {Q : Value → Shared → Prop}
    (FB : ExcBaseFacts B newId i bmB) (hC : h.get? C = some (excClassObj nm qn C N' bs bm hdct sn sub ab col dd k0 k1 k2 k3 k5 newId)) (he : h.get? x = some (excO C t0)) (hu : h.get? u = some (kxs_mw i x)) (hz : rest.length ≤ sizeLine)
    (fin : ∀ h', (∀ b o, b ≠ x → h.get? b = some o → h'.get? b = some o) → h'.get? x = some (excO C h.objs.size) → Q .none ⟨h', g, d, tk, os⟩) :
    wpAny (model prog w) A (call (.ref u) rest) Q E ⟨h, g, d, tk, os⟩ := by
  refine wpAny_call (codeAny_of_tree ?_)
  show wpAny _ A.in1 (callAny (.ref u) (Args.mk rest [])) _ _ _
  simp only [callAny]
  refine wpAny_bind (wpAny_load hu ?_)
  have e1 : (Value.type "method-wrapper" == Value.type "method" || Value.type "method-wrapper" == Value.type "builtin_function_or_method" || Value.type "method-wrapper" == Value.type "method-wrapper") = true := by decide
  simp only [kxs_mw, e1, if_true]
  refine KFB.if_so (by decide) (wpAny_bind (check_bound_init FB.toExcCallFacts hC he rfl ?_))
  refine wpAny_bind (wpAny_pure (wpAny_pure ⟨plainId_quiet FB.init.plain _, codeAny_builtin FB.initEntry ?_⟩))
  exact exc_init_tree (cls := .ref C) (t0 := t0) (dv := none) (c2 := .none) (c3 := .none) (b4 := .bool false) he hz fun h' a b _ => fin h' a b
end
/-! ### the text of __init__ -/
def xiA (f : Str) (p : Nat → Pos) : Arguments := { posonlyargs := [], args := [{ arg := "self", annotation := none, pos := p 0 }, { arg := f, annotation := none, pos := p 1 }], vararg := none, kwonlyargs := [], kw_defaults := [], kwarg := none, defaults := [] }
def xiB (pre f : Str) (p : Nat → Pos) : List Stmt :=
  [.Expr (.Call (.Attribute (.Call (.Name "super" (p 2)) [] [] (p 3)) "__init__" (p 4)) [.JoinedStr [.Constant (.str pre) 0 (p 5), .FormattedValue (.Name f (p 6)) (-1) none (p 7)] (p 8)] [] (p 9)) (p 10),
    .Assign [.Attribute (.Name "self" (p 11)) f (p 12)] (.Name f (p 13)) (p 14)]
def xiS (f : Str) : Scope := { kind := .function, names := [("self", .local), (f, .local), ("__class__", .free), ("super", .globalImplicit)], isGenerator := false, isCoroutine := false, more := [] }
/-- what the written part says of such a class x, at C: its __init__ at fI, the code at cda, the cell at cc -/
structure XiTxt (K : Frag) (prog : Program) (mg : Str → Option Value) (x pre f qn : Str) (C fI cda cc : Addr) : Prop where
  gC : mg x = some (.ref C)
  cls : ∃ nm q N bs bm sn sub ab col dd k0 k1 k2 k3 k5, K.lookup C = some (excClassObj nm q C N bs bm true sn sub ab col dd k0 k1 k2 k3 k5 "ValueError.__new__") ∧ refsVE bm = true
  sa : findIn K (.ref C) "__setattr__" = some (some (.builtin "object.__setattr__"))
  noN : findIn K (.ref C) f = some none
  iC : findIn K (.ref C) "__init__" = some (some (.ref fI))
  tC : typeIn K (.ref fI) = some (.type "function")
  kC : keepIn K (.ref C) = true
  exC : subIn K (.ref C) (.type "BaseException") = some true
  veC : subIn K (.ref C) (.type "ValueError") = some true
  tyC : typeIn K (.ref C) = some (.type "type")
  mro : mroIn K C (.ref C) = some true
  isup : ks_superIn K C C "__init__" = some (some (.builtin "ValueError.__init__"))
  fn : ∃ (oc : Value) (od : Option Addr) (kV doc pm : Value) (an : Option Addr) (ct : Value) (osl : Array (Option Value)) (p : Nat → Pos), ((p 4).endLine == (p 9).line) = true ∧
    K.lookup fI = some ⟨oc, od, .func (ksFn "__init__" qn (xiA f p) (xiB pre f p) (xiS f) .none kV doc pm an (.ref cda) ct cc), osl⟩
  hcd : codeIn K (.ref cda) qn = true
  code : ∃ (ccl : Value) (cdd : Option Addr) (vs : Array Value) (ccs : Array (Option Value)) (file : Str) (tf : Tok), K.lookup cda = some ⟨ccl, cdd, .fields vs, ccs⟩ ∧ vs[2]? = some (.str file tf) ∧ ((prog.main.file : Str) == file) = true
  cell : ∃ (cl : Value) (cld : Option Addr) (csl : Array (Option Value)), K.lookup cc = some ⟨cl, cld, .cell (some (.ref C)), csl⟩
  sup : mg "super" = none
  opq : nsIn K cStatics "thirdparty.any" = some none
  htop : (prog.main.scope.names.lookup ("super" : Str)).isSome = false
  fne : f ≠ "self" ∧ f ≠ "__class__" ∧ f ≠ "super" ∧ (f == ("__debug__" : Str)) = false
  small : pre.length ≤ 100
/-- what __init__ leaves of a fresh exception at x -/
structure XiEnd (h h' : Heap) (x C dx t1 : Addr) (f : Str) (v : Value) : Prop where
  keep : ∀ b o, b ≠ x → h.get? b = some o → h'.get? b = some o
  obj : h'.get? x = some { cls := .ref C, dict := some dx, data := .fields #[.ref t1, .none, .none, .none, .bool false, .none] }
  dbig : h.objs.size ≤ dx
  dne : dx ≠ x
  ns : h'.Ns1 dx (fun y => if y = f then some v else none)
/-- None, or an int that can be shown -/
inductive XiV : Value → Prop
  | non : XiV .none
  | int (i : Int) (t : Tok) (h : i.natAbs.log2 < 1920) : XiV (.int i t)
section
variable {prog : Program} {w : World} {A : Around} {E : Value → Shared → Prop} {R : Result → Shared → Prop} {s : Shared} {K : Frag} {mg mb : Str → Option Value} {x pre f qn : Str} {C fI cda cc : Addr}
theorem fmt_xi {v : Value} (hv : XiV v) {Q : Value → Shared → Prop} (h : ∀ (y : Str) (t : Tok) (k : Nat), y.length ≤ 10000 → Q (.str y t) { s with toks := k }) : wpAny (model prog w) A (formatField v Str.empty) Q E s := by
  cases hv with
  | non => exact wpAny_formatField_none (h _ _ _ (by decide))
  | int i t hi =>
    refine wpAny_formatField_int hi (h _ _ _ ?_)
    have e := int_text_length_le (k := 1920) (by decide) hi
    show (Str.ofString (toString i)).length ≤ 10000
    rw [PySem.ofString_length]
    omega
theorem init_xi_index (T : XiTxt K prog mg x pre "index" qn C fI cda cc) {e t0 : Addr} {v : Value} (hv : XiV v) (X : K.In s.heap) (hlim : s.heap.NoLimit) (G : s.heap.Ns mainGlobals mg) (Bt : s.heap.Ns builtinsNs mb) (hb : mb "super" = some (.type "super"))
    (hx : s.heap.get? e = some (HandSPX.excO C t0)) (hnx : K.lookup e = none) (hroom : A.depth < recursionLimit) (hq : ∀ h' tk dx t1, XiEnd s.heap h' e C dx t1 "index" v → R (.ok (.ret .none)) { s with heap := h', toks := tk }) :
    codeAny (model prog w) A (.call (.ref fI) ⟨[.ref e, v], []⟩) R s := by
  obtain ⟨oc, od, kV, doc, pm, an, ct, osl, p, hp, ho⟩ := T.fn
  obtain ⟨nm, q, N, bs, bm, sn, sub, ab, col, dd, k0, k1, k2, k3, k5, hC, hbm⟩ := T.cls
  obtain ⟨ccl, cdd, vs, ccs, file, tf, hco, hvs, hfile⟩ := T.code
  obtain ⟨cl, cld, csl, hcell⟩ := T.cell
  have hcl : clsIn K C = some { name := nm, bases := bs, mro := .ref C :: bm, ns := N, qualname := q, hasDict := true, slotNames := sn, subclasses := sub, abstract := ab, collection := col, hasDel := false } := by unfold clsIn; rw [hC] <;> rfl
  refine ks_codeAny_call_defAt (fd := ksFn "__init__" qn (xiA "index" p) (xiB pre "index" p) (xiS "index") .none kV doc pm an (.ref cda) ct cc) (body := xiB pre "index" p) (binds := [("self", .ref e), ("index", v)]) hroom (X _ _ ho) rfl hlim (codeRec_of X T.hcd) rfl ?_ ?_ ?_ (fun h₁ hns hk => ?_) rfl rfl rfl
  · exact BindsTo.of_eq (by first | rfl | with_unfolding_all rfl)
  · intro y hy
    simp only [xiS, List.mem_cons, List.not_mem_nil, or_false] at hy
    rcases hy with rfl | rfl | rfl | rfl <;> (intro z; cases z)
  · intro y hy
    simp only [List.mem_cons, List.not_mem_nil, or_false] at hy
    rcases hy with rfl | rfl <;> rfl
  have he : ∀ env : Env, eval (.Call (.Attribute (.Call (.Name "super" (p 2)) [] [] (p 3)) "__init__" (p 4)) [.JoinedStr [.Constant (.str pre) 0 (p 5), .FormattedValue (.Name "index" (p 6)) (-1) none (p 7)] (p 8)] [] (p 9)) env = (do
      let ov ← attributeBase (.Call (.Name "super" (p 2)) [] [] (p 3)) "__init__" env (eval (.Call (.Name "super" (p 2)) [] [] (p 3)) env)
      standAt (p 4).atName
      let (f, first) ← holding [ov] (getMethod ov "__init__" (do return (← importBound (.Call (.Name "super" (p 2)) [] [] (p 3)) env).getD true))
      callWith (p 9) f first (backTo (p 9) (starEach [.JoinedStr [.Constant (.str pre) 0 (p 5), .FormattedValue (.Name "index" (p 6)) (-1) none (p 7)] (p 8)] env)) []) := fun env => by
    have e1 : methodCallPos true (.Call (.Name "super" (p 2)) [] [] (p 3)) env (p 4) (p 9) = pure (p 9) := by
      unfold methodCallPos
      rw [hp]
      rfl
    rw [arm_eval_Call]
    unfold methodCall
    have e2 : methodCallForm ([Expr.JoinedStr [.Constant (.str pre) 0 (p 5), .FormattedValue (.Name "index" (p 6)) (-1) none (p 7)] (p 8)].length + ([] : List Keyword).length) (backTo (p 9) (starEach [.JoinedStr [.Constant (.str pre) 0 (p 5), .FormattedValue (.Name "index" (p 6)) (-1) none (p 7)] (p 8)] env)) (backToKw (p 9) (keywordEach [] env)) = true := rfl
    rw [e2, e1]
    rfl
  refine ks_wpAt_execs_cons (ks_wpAt_Expr_any (ks_wpAt_MethodCall ?_ (he _)))
  have X₁ : K.In h₁ := X.keeps hk
  refine ks_wpAt_super_base (f := fI) (cc := cda) rfl rfl (by decide) rfl (X₁ _ _ ho) rfl rfl rfl (X₁ _ _ hco) rfl hvs hfile T.htop ?_
  refine ks_loadName_global rfl rfl (loadGlobal_builtin (G.keeps hk) T.sup (Bt.keeps hk) hb ⟨rfl, ?_⟩)
  refine wpAny_loadName_free rfl rfl rfl ⟨_, X₁ _ _ hcell, rfl⟩ ?_
  refine wpAny_loadName_local (v := .ref e) rfl rfl hns (by first | rfl | with_unfolding_all rfl | kernel_rfl) ?_
  refine ks_wpAny_isType_cls (X₁ _ _ hC) rfl ⟨rfl, ?_⟩
  refine ks_wpAny_call_super (X₁ _ _ hC) rfl (hk _ _ hx) rfl (fun c z => by cases z) (looks_mroIn X₁ T.mro) (fun h₂ e2 k2 => ?_)
  have X₂ : K.In h₂ := X₁.keeps k2
  have hx₂ := k2 _ _ (hk _ _ hx)
  have I₂ : InstAt h₂ e (HandSPX.excO C t0) C none := ⟨hx₂, rfl, rfl, trivial⟩
  have hI : Looks (model prog w) h₂ (isInstance (.ref e) (.type "ValueError")) true := I₂.type.andThen (looks_subIn X₂ T.veC)
  have hal : alongIn K "__init__" (((.ref C :: bm : List Value).dropWhile (· != .ref C)).drop 1) = some (some (.builtin "ValueError.__init__")) := by
    have := T.isup
    unfold ks_superIn at this
    rw [hcl] at this
    exact this
  refine kxs_getMethod kxs_ValueError e2 (looks_opaque X₂ T.opq) (l₀ := .ref C :: bm) (fun A Q E s k q => wpAny_bind ((looks_clsIn X₂ hcl) A _ E s k (wpAny_pure q))) rfl X₂ hal hI (ks_ne X₂ I₂ hcl) (by decide) ?_
  have k3 : ∀ b o, h₂.get? b = some o → (h₂.push (kxs_mw "ValueError.__init__" e)).get? b = some o := fun b o z => Heap.get?_push_of_some _ z
  have hu3 : (h₂.push (kxs_mw "ValueError.__init__" e)).get? h₂.objs.size = some (kxs_mw "ValueError.__init__" e) := Heap.get?_push_at rfl rfl
  generalize (h₂.push (kxs_mw "ValueError.__init__" e)) = h₃ at k3 hu3
  refine kxs_callWith (i := "ValueError.__init__") (x := e) rfl ?_
  refine evalArgs_plain (spliced_cons ?_)
  refine wpAny_JoinedStr (pos := p 8) ?_
  have hns3 := (hns.keeps k2).keeps k3
  have zs : sizeLine = 16777216 := sizeLine_eq
  have zp := T.small
  have l0 : (Str.empty ++ pre).length = 0 + pre.length := strLen_append _ _
  refine wpAny_Constant_str ⟨pre, _, rfl, by omega, ?_⟩
  refine wpAny_FormattedValue_plain (wpAny_Name (wpAny_loadName_local (v := v) rfl rfl hns3 (by first | rfl | with_unfolding_all rfl | kernel_rfl) ?_) (by decide))
  refine fmt_xi hv fun y ty ky hy => ?_
  have l1 : (Str.empty ++ pre ++ y).length = (Str.empty ++ pre).length + y.length := strLen_append _ _
  refine ⟨y, ty, rfl, by omega, ?_⟩
  refine ⟨by omega, ?_⟩
  refine spliced_nil ⟨hu3, ?_⟩
  refine call_mw PySem.F.excBase_ValueError (k3 _ _ (X₂ _ _ hC)) (k3 _ _ hx₂) hu3 (by show 1 ≤ sizeLine; rw [sizeLine_eq]; omega) fun h₄ k4 hx4 => ?_
  have neL : s.heap.objs.size ≠ e := Nat.ne_of_gt (Heap.lt_size hx)
  have hns4 : h₄.Ns s.heap.objs.size (fun z => List.lookup z [(("self" : Str), Value.ref e), (("index" : Str), v)].reverse) := by
    obtain ⟨oL, es, ep, hL, r⟩ := hns3
    exact ⟨oL, es, ep, k4 _ _ neL hL, r⟩
  have X₃ : K.In h₃ := X₂.keeps k3
  have X₄ : K.In h₄ := fun a o z => k4 a o (fun y => by rw [y, hnx] at z; cases z) (X₃ a o z)
  show PySem.wpAt _ _ _ (execs _ _) _ _ _
  refine wpAt_of_wpAny (wpAny_execs_cons (plainObj_wpAny_Assign_Attribute ?_))
  refine wpAny_Name (wpAny_loadName_local (v := v) rfl rfl hns4 (by first | rfl | with_unfolding_all rfl | kernel_rfl) ?_) (by decide)
  refine wpAny_Name (wpAny_loadName_local (v := .ref e) rfl rfl hns4 (by first | rfl | with_unfolding_all rfl | kernel_rfl) ?_) (by decide)
  refine set_plain X₄ (ox := HandSPX.excO C h₃.objs.size) (od := none) ⟨hx4, rfl, rfl, trivial⟩ T.sa ?_
  refine HandSPX.exc_osa X₄ hx4 hcl (show refsVE (.ref C :: bm) = true from hbm) rfl T.noN (fun h₅ tk₅ dx k₅ dn dne hx₅ hn₅ => ?_)
  refine wpAny_execs_nil (hq h₅ tk₅ dx _ ⟨fun b o hb z => k₅ b o hb (k4 b o hb (k3 b o (k2 b o (hk b o z)))), hx₅, ?_, dne, hn₅⟩)
  exact Nat.le_of_lt (Nat.lt_of_lt_of_le hns4.lt dn)
theorem init_xi_limit (T : XiTxt K prog mg x pre "limit" qn C fI cda cc) {e t0 : Addr} {v : Value} (hv : XiV v) (X : K.In s.heap) (hlim : s.heap.NoLimit) (G : s.heap.Ns mainGlobals mg) (Bt : s.heap.Ns builtinsNs mb) (hb : mb "super" = some (.type "super"))
    (hx : s.heap.get? e = some (HandSPX.excO C t0)) (hnx : K.lookup e = none) (hroom : A.depth < recursionLimit) (hq : ∀ h' tk dx t1, XiEnd s.heap h' e C dx t1 "limit" v → R (.ok (.ret .none)) { s with heap := h', toks := tk }) :
    codeAny (model prog w) A (.call (.ref fI) ⟨[.ref e, v], []⟩) R s := by
  obtain ⟨oc, od, kV, doc, pm, an, ct, osl, p, hp, ho⟩ := T.fn
  obtain ⟨nm, q, N, bs, bm, sn, sub, ab, col, dd, k0, k1, k2, k3, k5, hC, hbm⟩ := T.cls
  obtain ⟨ccl, cdd, vs, ccs, file, tf, hco, hvs, hfile⟩ := T.code
  obtain ⟨cl, cld, csl, hcell⟩ := T.cell
  have hcl : clsIn K C = some { name := nm, bases := bs, mro := .ref C :: bm, ns := N, qualname := q, hasDict := true, slotNames := sn, subclasses := sub, abstract := ab, collection := col, hasDel := false } := by unfold clsIn; rw [hC] <;> rfl
  refine ks_codeAny_call_defAt (fd := ksFn "__init__" qn (xiA "limit" p) (xiB pre "limit" p) (xiS "limit") .none kV doc pm an (.ref cda) ct cc) (body := xiB pre "limit" p) (binds := [("self", .ref e), ("limit", v)]) hroom (X _ _ ho) rfl hlim (codeRec_of X T.hcd) rfl ?_ ?_ ?_ (fun h₁ hns hk => ?_) rfl rfl rfl
  · exact BindsTo.of_eq (by first | rfl | with_unfolding_all rfl)
  · intro y hy
    simp only [xiS, List.mem_cons, List.not_mem_nil, or_false] at hy
    rcases hy with rfl | rfl | rfl | rfl <;> (intro z; cases z)
  · intro y hy
    simp only [List.mem_cons, List.not_mem_nil, or_false] at hy
    rcases hy with rfl | rfl <;> rfl
  have he : ∀ env : Env, eval (.Call (.Attribute (.Call (.Name "super" (p 2)) [] [] (p 3)) "__init__" (p 4)) [.JoinedStr [.Constant (.str pre) 0 (p 5), .FormattedValue (.Name "limit" (p 6)) (-1) none (p 7)] (p 8)] [] (p 9)) env = (do
      let ov ← attributeBase (.Call (.Name "super" (p 2)) [] [] (p 3)) "__init__" env (eval (.Call (.Name "super" (p 2)) [] [] (p 3)) env)
      standAt (p 4).atName
      let (f, first) ← holding [ov] (getMethod ov "__init__" (do return (← importBound (.Call (.Name "super" (p 2)) [] [] (p 3)) env).getD true))
      callWith (p 9) f first (backTo (p 9) (starEach [.JoinedStr [.Constant (.str pre) 0 (p 5), .FormattedValue (.Name "limit" (p 6)) (-1) none (p 7)] (p 8)] env)) []) := fun env => by
    have e1 : methodCallPos true (.Call (.Name "super" (p 2)) [] [] (p 3)) env (p 4) (p 9) = pure (p 9) := by
      unfold methodCallPos
      rw [hp]
      rfl
    rw [arm_eval_Call]
    unfold methodCall
    have e2 : methodCallForm ([Expr.JoinedStr [.Constant (.str pre) 0 (p 5), .FormattedValue (.Name "limit" (p 6)) (-1) none (p 7)] (p 8)].length + ([] : List Keyword).length) (backTo (p 9) (starEach [.JoinedStr [.Constant (.str pre) 0 (p 5), .FormattedValue (.Name "limit" (p 6)) (-1) none (p 7)] (p 8)] env)) (backToKw (p 9) (keywordEach [] env)) = true := rfl
    rw [e2, e1]
    rfl
  refine ks_wpAt_execs_cons (ks_wpAt_Expr_any (ks_wpAt_MethodCall ?_ (he _)))
  have X₁ : K.In h₁ := X.keeps hk
  refine ks_wpAt_super_base (f := fI) (cc := cda) rfl rfl (by decide) rfl (X₁ _ _ ho) rfl rfl rfl (X₁ _ _ hco) rfl hvs hfile T.htop ?_
  refine ks_loadName_global rfl rfl (loadGlobal_builtin (G.keeps hk) T.sup (Bt.keeps hk) hb ⟨rfl, ?_⟩)
  refine wpAny_loadName_free rfl rfl rfl ⟨_, X₁ _ _ hcell, rfl⟩ ?_
  refine wpAny_loadName_local (v := .ref e) rfl rfl hns (by first | rfl | with_unfolding_all rfl | kernel_rfl) ?_
  refine ks_wpAny_isType_cls (X₁ _ _ hC) rfl ⟨rfl, ?_⟩
  refine ks_wpAny_call_super (X₁ _ _ hC) rfl (hk _ _ hx) rfl (fun c z => by cases z) (looks_mroIn X₁ T.mro) (fun h₂ e2 k2 => ?_)
  have X₂ : K.In h₂ := X₁.keeps k2
  have hx₂ := k2 _ _ (hk _ _ hx)
  have I₂ : InstAt h₂ e (HandSPX.excO C t0) C none := ⟨hx₂, rfl, rfl, trivial⟩
  have hI : Looks (model prog w) h₂ (isInstance (.ref e) (.type "ValueError")) true := I₂.type.andThen (looks_subIn X₂ T.veC)
  have hal : alongIn K "__init__" (((.ref C :: bm : List Value).dropWhile (· != .ref C)).drop 1) = some (some (.builtin "ValueError.__init__")) := by
    have := T.isup
    unfold ks_superIn at this
    rw [hcl] at this
    exact this
  refine kxs_getMethod kxs_ValueError e2 (looks_opaque X₂ T.opq) (l₀ := .ref C :: bm) (fun A Q E s k q => wpAny_bind ((looks_clsIn X₂ hcl) A _ E s k (wpAny_pure q))) rfl X₂ hal hI (ks_ne X₂ I₂ hcl) (by decide) ?_
  have k3 : ∀ b o, h₂.get? b = some o → (h₂.push (kxs_mw "ValueError.__init__" e)).get? b = some o := fun b o z => Heap.get?_push_of_some _ z
  have hu3 : (h₂.push (kxs_mw "ValueError.__init__" e)).get? h₂.objs.size = some (kxs_mw "ValueError.__init__" e) := Heap.get?_push_at rfl rfl
  generalize (h₂.push (kxs_mw "ValueError.__init__" e)) = h₃ at k3 hu3
  refine kxs_callWith (i := "ValueError.__init__") (x := e) rfl ?_
  refine evalArgs_plain (spliced_cons ?_)
  refine wpAny_JoinedStr (pos := p 8) ?_
  have hns3 := (hns.keeps k2).keeps k3
  have zs : sizeLine = 16777216 := sizeLine_eq
  have zp := T.small
  have l0 : (Str.empty ++ pre).length = 0 + pre.length := strLen_append _ _
  refine wpAny_Constant_str ⟨pre, _, rfl, by omega, ?_⟩
  refine wpAny_FormattedValue_plain (wpAny_Name (wpAny_loadName_local (v := v) rfl rfl hns3 (by first | rfl | with_unfolding_all rfl | kernel_rfl) ?_) (by decide))
  refine fmt_xi hv fun y ty ky hy => ?_
  have l1 : (Str.empty ++ pre ++ y).length = (Str.empty ++ pre).length + y.length := strLen_append _ _
  refine ⟨y, ty, rfl, by omega, ?_⟩
  refine ⟨by omega, ?_⟩
  refine spliced_nil ⟨hu3, ?_⟩
  refine call_mw PySem.F.excBase_ValueError (k3 _ _ (X₂ _ _ hC)) (k3 _ _ hx₂) hu3 (by show 1 ≤ sizeLine; rw [sizeLine_eq]; omega) fun h₄ k4 hx4 => ?_
  have neL : s.heap.objs.size ≠ e := Nat.ne_of_gt (Heap.lt_size hx)
  have hns4 : h₄.Ns s.heap.objs.size (fun z => List.lookup z [(("self" : Str), Value.ref e), (("limit" : Str), v)].reverse) := by
    obtain ⟨oL, es, ep, hL, r⟩ := hns3
    exact ⟨oL, es, ep, k4 _ _ neL hL, r⟩
  have X₃ : K.In h₃ := X₂.keeps k3
  have X₄ : K.In h₄ := fun a o z => k4 a o (fun y => by rw [y, hnx] at z; cases z) (X₃ a o z)
  show PySem.wpAt _ _ _ (execs _ _) _ _ _
  refine wpAt_of_wpAny (wpAny_execs_cons (plainObj_wpAny_Assign_Attribute ?_))
  refine wpAny_Name (wpAny_loadName_local (v := v) rfl rfl hns4 (by first | rfl | with_unfolding_all rfl | kernel_rfl) ?_) (by decide)
  refine wpAny_Name (wpAny_loadName_local (v := .ref e) rfl rfl hns4 (by first | rfl | with_unfolding_all rfl | kernel_rfl) ?_) (by decide)
  refine set_plain X₄ (ox := HandSPX.excO C h₃.objs.size) (od := none) ⟨hx4, rfl, rfl, trivial⟩ T.sa ?_
  refine HandSPX.exc_osa X₄ hx4 hcl (show refsVE (.ref C :: bm) = true from hbm) rfl T.noN (fun h₅ tk₅ dx k₅ dn dne hx₅ hn₅ => ?_)
  refine wpAny_execs_nil (hq h₅ tk₅ dx _ ⟨fun b o hb z => k₅ b o hb (k4 b o hb (k3 b o (k2 b o (hk b o z)))), hx₅, ?_, dne, hn₅⟩)
  exact Nat.le_of_lt (Nat.lt_of_lt_of_le hns4.lt dn)
theorem init_xi (T : XiTxt K prog mg x pre f qn C fI cda cc) (hf : f = "index" ∨ f = "limit") {e t0 : Addr} {v : Value} (hv : XiV v) (X : K.In s.heap) (hlim : s.heap.NoLimit) (G : s.heap.Ns mainGlobals mg) (Bt : s.heap.Ns builtinsNs mb) (hb : mb "super" = some (.type "super"))
    (hx : s.heap.get? e = some (HandSPX.excO C t0)) (hnx : K.lookup e = none) (hroom : A.depth < recursionLimit) (hq : ∀ h' tk dx t1, XiEnd s.heap h' e C dx t1 f v → R (.ok (.ret .none)) { s with heap := h', toks := tk }) :
    codeAny (model prog w) A (.call (.ref fI) ⟨[.ref e, v], []⟩) R s := by
  rcases hf with rfl | rfl
  · exact init_xi_index T hv X hlim G Bt hb hx hnx hroom hq
  · exact init_xi_limit T hv X hlim G Bt hb hx hnx hroom hq
/-- a made one -/
structure XiMade (h h' : Heap) (e C d : Addr) (f : Str) (v : Value) : Prop where
  keep : ∀ b o, h.get? b = some o → h'.get? b = some o
  new : h.objs.size ≤ e
  obj : ∃ t1 : Addr, h'.get? e = some { cls := .ref C, dict := some d, data := .fields #[.ref t1, .none, .none, .none, .bool false, .none] }
  dbig : h.objs.size ≤ d
  dne : d ≠ e
  ns : h'.Ns1 d (fun y => if y = f then some v else none)
theorem made_xi (T : XiTxt K prog mg x pre f qn C fI cda cc) (hf : f = "index" ∨ f = "limit") {v : Value} (hv : XiV v) (X : K.In s.heap) (hlim : s.heap.NoLimit) (G : s.heap.Ns mainGlobals mg) (Bt : s.heap.Ns builtinsNs mb) (hb : mb "super" = some (.type "super"))
    (hroom : A.depth + 1 < recursionLimit) (hq : ∀ h' tk e d, XiMade s.heap h' e C d f v → R (.ok (.ret (.ref e))) { s with heap := h', toks := tk }) :
    codeAny (model prog w) A (.call (.ref C) ⟨[v], []⟩) R s := by
  obtain ⟨nm, q, N, bs, bm, sn, sub, ab, col, dd, k0, k1, k2, k3, k5, hC, hbm⟩ := T.cls
  obtain ⟨hp, g, dr, tk, os⟩ := s
  have k : ∀ b o, hp.get? b = some o → ((hp.push (kdv_tup [v])).push (HandSPX.excO C hp.objs.size)).get? b = some o := fun b o z => Heap.get?_push_of_some _ (Heap.get?_push_of_some _ z)
  have hget : ((hp.push (kdv_tup [v])).push (HandSPX.excO C hp.objs.size)).get? (hp.objs.size + 1) = some (HandSPX.excO C hp.objs.size) := by heap_get
  have hnx : K.lookup (hp.objs.size + 1) = none := by
    cases z : K.lookup (hp.objs.size + 1) with
    | none => rfl
    | some o => exact absurd (Nat.lt_of_succ_lt (Heap.lt_size (X _ _ z))) (Nat.lt_irrefl _)
  refine HandSPX.call_own F.excBase_ValueError (fun Y => HandSPX.refsVE_contains Y bm hbm) (X _ _ hC) (looks_findIn X T.iC) (fun self => bind_fn X self T.tC) (by show 1 ≤ sizeLine; rw [sizeLine_eq]; omega) ?_
  refine init_xi (s := ⟨(hp.push (kdv_tup [v])).push (HandSPX.excO C hp.objs.size), g, dr, tk, os⟩) T hf hv (X.keeps k) (hlim.keeps k) (G.keeps k) (Bt.keeps k) hb hget hnx (by show A.depth + 1 < recursionLimit; exact hroom) fun h' tk' dx t1 ⟨k', hx, dn, dne, hns⟩ => ?_
  have old : ∀ b o, hp.get? b = some o → h'.get? b = some o := fun b o z => k' b o (Nat.ne_of_lt (Nat.lt_succ_of_lt (Heap.lt_size z))) (k b o z)
  have z : hp.objs.size + 1 + 1 ≤ dx := by
    first
      | (simpa only [Heap.size_push] using dn)
      | exact dn
      | (have q := dn; rw [Heap.size_push, Heap.size_push] at q; exact q)
  exact ⟨rfl, hq h' tk' (hp.objs.size + 1) dx ⟨old, Nat.le_succ _, ⟨t1, hx⟩, Nat.le_trans (Nat.le_trans (Nat.le_succ _) (Nat.le_succ _)) z, dne, hns⟩⟩
end
end EXN
namespace DL
open PySem PySem.Spec PyProof.Rows L2
section
variable {X : Cx} {x pre f qn : Str} {C fI cda cc : Addr}
theorem relO_one {f : Str} {v : V} {u : Value} (r : RelV v u) (z : Str) : RelO (List.lookup z [(f, v)]) (if z = f then some u else none) := by
  by_cases h : z = f
  · subst h
    rw [if_pos rfl, show List.lookup z [(z, v)] = some v by simp [List.lookup]]
    exact r
  · rw [if_neg h, show List.lookup z [(f, v)] = none by simp [List.lookup, show (z == f) = false by simpa using h]]
    trivial
/-- x(e), an own exception of one field: its dict is new -/
def tMkXi (C : Addr) (f : Str) (ta : TA) : L2.St → Hp → XK → Prop := fun σ H Q => ta σ H fun vs H1 => ∃ v, vs = [v] ∧ (v = V.non ∨ ∃ i : Int, v = .int i ∧ i.natAbs.log2 < 1920) ∧ ∀ d, H1 d = none → Q (.ref C) (some d) (upd H1 d (.xd [(f, v)]))
theorem pmk_xi {a : Expr} {ta : TA} {p pos : Pos} {k : Nat} (T : EXN.XiTxt X.K X.prog X.mg x pre f qn C fI cda cc) (hf : f = "index" ∨ f = "limit") (hr : Room k X.A) (ha : PA X [a] ta) (hg : Gl X x) (hdb : (x == ("__debug__" : Str)) = false := by decide)
    (he : starEach (a :: []) X.env = (false, eval a X.env) :: starEach [] X.env := by rfl) (hpl : (backTo pos (starEach [] X.env)).any (·.1) = false := by rfl) : L2N.PMk X (.Call (.Name x p) [a] [] pos) (tMkXi C f ta) := by
  intro pins s σ H Q I h
  refine wpAny_Call_Name_kw (ld_glob I hg T.gC ?_ hdb)
  refine PySem.W.callWith_K (h₀ := X.base) I.ok.mod.kin T.kC (thn (ha.run pos pins s σ H _ I h) fun us s1 hh => ?_) he hpl
  obtain ⟨vs, H1, I1, r1, v, ev, hv, q1⟩ := hh
  subst ev
  refine ⟨I1.kIn, ?_⟩
  obtain ⟨u, rfl, rv⟩ := vals1 r1
  show wpAny _ _ (call (.ref C) [u]) _ _ _
  have hu : EXN.XiV u := by
    rcases hv with rfl | ⟨i, rfl, hi⟩
    · cases rv
      exact .non
    · obtain ⟨t, rfl⟩ := rv
      exact .int i t hi
  obtain ⟨mb, hB1, hB2⟩ := I1.mod.blt
  have hlim := I1.nolimit
  have G1 := I1.mod.glob.keeps I1.bk
  have B1 := hB1.keeps I1.bk
  obtain ⟨hp, g, dr, tk, os⟩ := s1
  refine wpAny_call (EXN.made_xi T hf hu I1.kIn hlim G1 B1 ((hB2 "super" (by decide)).trans (by first | rfl | decide +kernel)) (by have := hr.dp; omega) fun h' tk' e d M => ?_)
  show L2N.MkP X pins σ Q (.ref e) ⟨h', g, dr, tk', os⟩
  obtain ⟨t1, hoe⟩ := M.obj
  obtain ⟨G', g1, g2⟩ := restrict h' fun b => decide (b ≠ e)
  have gk : ∀ b, b ≠ e → G'.get? b = h'.get? b := fun b hb => g1 b (decide_eq_true hb)
  have ge : G'.get? e = none := g2 e (by simp)
  have old : ∀ b o, hp.get? b = some o → G'.get? b = some o := fun b o q => (gk b (Nat.ne_of_lt (Nat.lt_of_lt_of_le (Heap.lt_size q) M.new))).trans (M.keep b o q)
  have ob : ObjOk X.prog X.w (upd H1 d (.xd [(f, v)])) G' d (.xd [(f, v)]) := ⟨_, M.ns.at (fun o q => (gk d M.dne).trans q), fun z => relO_one rv z⟩
  have J : Inv X pins σ (upd H1 d (.xd [(f, v)])) ⟨G', g, dr, tk', os⟩ := I1.laid (t' := tk') old M.dbig ob
  refine ⟨e, _, _, ⟨G', g, dr, tk', os⟩, _, .ref C, some d, rfl, J, fun b o q => ?_, ge, hoe, ⟨rfl, rfl, fun vs z => by cases z; rfl⟩, rfl, rfl, ?_, rfl, I1.bare, raises_own T.exC T.tyC, q1 d (I1.hok.fresh M.dbig)⟩
  · by_cases hb : b = e
    · have q' : G'.get? b = some o := q
      rw [hb, ge] at q'
      cases q'
    · exact (gk b hb).symm.trans q
  · rw [upd_ne (Ne.symm M.dne)]
    exact I1.hok.fresh M.new
end
end DL

/-! EXD: defs that raise, and try, over data. -/
namespace DL
open PySem PySem.Spec PyProof.Rows L2

structure XSpec (α : Type) where
  pre : α → List Va → Sto → Prop
  post : α → Sto → Va → Sto → Prop
  /-- the class at C, the dict, the store behind -/
  xp : α → Sto → Addr → Option Addr → Sto → Prop
section
variable (K : PySem.W.Frag)
def PostX (F : Hp) (X : Addr → Option Addr → Sto → Prop) (E : XK) : Prop := ∀ C d F' H' S', Same F F' → Cf K S' F' H' → X C d S' → E (.ref C) d H'
def spX {α : Type} (sp : XSpec α) : Sp := fun vs H Q E => ∃ (F : Hp) (xs : List Va) (S : Sto) (a : α), Cf K S F H ∧ Paired (VaOk K F) xs vs ∧ sp.pre a xs S ∧ PostE K F (sp.post a S) Q ∧ PostX K F (sp.xp a S) E
def spM {α β : Type} (sp : Spec α) (sx : XSpec β) : Sp := fun vs H Q E => spD K sp vs H Q E ∨ spX K sx vs H Q E
/-- what is wished of an exception: kept by what it is -/
def PostW (F0 : Hp) (X : Addr → Option Addr → Env → Sto → Prop) (W : WX) : Prop := ∀ C d σ F H Γ S, Same F0 F → Slots K F Γ σ → Cf K S F H → X C d Γ S → W (.ref C) d σ H
def dSX (F0 : Hp) (ts : TS) (N : DEnds) (Γ : Env) (S : Sto) : Prop := ∀ σ F H, Same F0 F → Slots K F Γ σ → Cf K S F H → ∀ D, EOk K F N D → ts D σ H
def dEX (F0 : Hp) (te : TE) (Γ : Env) (S : Sto) (Q : QE) : Prop := ∀ σ F H, Same F0 F → Slots K F Γ σ → Cf K S F H → ∀ Q' : VK, PostE K F Q Q' → te σ H Q'
def dAX (F0 : Hp) (ta : TA) (Γ : Env) (S : Sto) (Q : List Va → Sto → Prop) : Prop := ∀ σ F H, Same F0 F → Slots K F Γ σ → Cf K S F H → ∀ Q', PostA K F Q Q' → ta σ H Q'
end
section
variable {CX : CXT} {P : Program} {w : World} {K : PySem.W.Frag} {mg : Str → Option Value} {base : Heap} {k : Nat} {f : Addr} {fd : FuncData} {ps : List Str} {sp sp' : Sp}
theorem FnG.cx (G : FnG P w K mg base CX0 k f fd ps sp) : FnG P w K mg base CX k f fd ps sp :=
  ⟨G.few, fun A outer s H args us vs Q E r g e0 b v h => codeAny_mono (G.go A outer s H args us vs Q E r g e0 b v h) fun r s' z => match r, z with
    | .error _, z => z.elim
    | .ok (.ret _), z => z
    | .ok .next, z => z.elim
    | .ok .brk, z => z.elim
    | .ok .cont, z => z.elim⟩
theorem FnG.or (G : FnG P w K mg base CX k f fd ps sp) (G' : FnG P w K mg base CX k f fd ps sp') : FnG P w K mg base CX k f fd ps (fun vs H Q E => sp vs H Q E ∨ sp' vs H Q E) :=
  ⟨fun vs H Q E h => h.elim (G.few vs H Q E) (G'.few vs H Q E), fun A outer s H args us vs Q E r g e0 b v h => h.elim (G.go A outer s H args us vs Q E r g e0 b v) (G'.go A outer s H args us vs Q E r g e0 b v)⟩
end
/-- a def that may raise, as its callers know it -/
structure CalX (P : Program) (w : World) (K : PySem.W.Frag) (mg : Str → Option Value) (base : Heap) (k : Nat) (nm : Str) (a : Addr) (fd : FuncData) (ps : List Str) (sp : Sp) : Prop where
  G : FnG P w K mg base (L2N.CX P w) k a fd ps sp
  g : mg nm = some (.ref a)
  kp : PySem.W.keepIn K (.ref a) = true
  b : Binds K fd ps []
/-! ### calls -/
section
variable {X : Cx} {CX : CXT} {k : Nat} {f : Addr} {fd : FuncData} {ps ks : List Str} {sp : Sp} {E : L2.St → XK} {x : Str} {p pos : Pos} {e : Expr} {es : List Expr} {t : TA}
theorem gcallS (G : FnG X.prog X.w X.K X.mg X.base CX k f fd ps sp) (hr : Room k X.A) (gd : Gd X.A) (gl : Gl X x) (hm : X.mg x = some (.ref f)) (kp : PySem.W.keepIn X.K (.ref f) = true) (hb : Binds X.K fd ps []) (hx : ∀ σ, PassesAt CX X σ (E σ)) (ha : PA X (e :: es) t)
    (hdb : (x == ("__debug__" : Str)) = false := by decide) (he : starEach (e :: es) X.env = (false, eval e X.env) :: starEach es X.env := by rfl) (hpl : (backTo pos (starEach es X.env)).any (·.1) = false := by rfl) :
    PE X (.Call (.Name x p) (e :: es) [] pos) (tCallS sp E t) := by
  constructor
  intro pins s σ H Q I h
  refine wpAny_Call_Name_kw (ld_glob I gl hm ?_ hdb)
  refine PySem.W.callWith_K (h₀ := X.base) I.ok.mod.kin kp (thn (ha.run pos pins s σ H _ I h) fun us s1 hh => ?_) he hpl
  obtain ⟨vs, H1, J, r, q⟩ := hh
  refine ⟨J.kIn, ?_⟩
  have all : us.length = ps.length := by
    rw [← r.length]
    exact G.few _ _ _ _ q
  have b := hb s1 us J.kIn (by rw [List.append_nil]; exact all)
  rw [List.append_nil] at b
  refine wpAny_call (codeAny_mono (G.go X.A X.stack s1 H1 _ us vs Q (E σ) hr gd J.env0 b r q) fun r s' hq => ?_)
  match r, hq with
  | .error e, hq => exact hx σ pins H1 s1 e s' J hq
  | .ok (.ret _), hq => exact J.after hq
  | .ok .next, hq => exact hq.elim
  | .ok .brk, hq => exact hq.elim
  | .ok .cont, hq => exact hq.elim
end
section
variable {K : PySem.W.Frag} {F F' F0 H H' : Hp} {S S' : Sto} {Γ : Env} {σ : L2.St} {x y z : Va} {v : V} {Q : QE} {te ta tb tc : TE} {N : DEnds} {t u : TS} {W : WX} {Xp : Addr → Option Addr → Env → Sto → Prop}
/-! ### statements -/
theorem x_lift (h : dS K t N Γ S) : dSX K F0 t N Γ S := fun σ F H _ s c D o => h σ F H s c D o
theorem x_seq (h : dSX K F0 t { N with nx := fun Γ' S' => dSX K F0 u N Γ' S' } Γ S) : dSX K F0 (tSeq t u) N Γ S := fun σ F H e0 s c D o =>
  h σ F H e0 s c _ ⟨fun σ' F' H' Γ' S' e s' c' q => q σ' F' H' (e0.trans e) s' c' D (o.mono e), o.rt, o.bk, o.ct⟩
/-- a statement that raises nothing ahead of the others -/
theorem x_then (h : dS K t { N with nx := fun Γ' S' => dSX K F0 u N Γ' S' } Γ S) : dSX K F0 (tSeq t u) N Γ S := x_seq (x_lift h)
theorem x_if {c : TT} (h : dT K c Γ S fun b S1 => (b = true → dSX K F0 t N Γ S1) ∧ (b = false → dSX K F0 u N Γ S1)) : dSX K F0 (tIfS c t u) N Γ S := fun σ F H e0 s cf D o =>
  h σ F H s cf _ fun b F1 H1 S1 e1 c1 ⟨h1, h2⟩ => by
    cases b with
    | true => rw [if_pos rfl]; exact h1 rfl σ F1 H1 (e0.trans e1) (s.mono e1) c1 D (o.mono e1)
    | false => rw [if_neg Bool.false_ne_true]; exact h2 rfl σ F1 H1 (e0.trans e1) (s.mono e1) c1 D (o.mono e1)
theorem x_env {Γ : Env} (Γ' : Env) (e : Γ = Γ') (q : dSX K F0 t N Γ' S) : dSX K F0 t N Γ S := e ▸ q
theorem x_drop (h : dEX K F0 te Γ S fun _ S' => N.nx Γ S') : dSX K F0 (tDrop te) N Γ S := fun σ F H e0 s c D o => h σ F H e0 s c _ fun v F1 H1 x S1 e1 c1 _ q => o.nx σ F1 H1 Γ S1 e1 (s.mono e1) c1 q
theorem x_ret (h : dEX K F0 te Γ S N.rt) : dSX K F0 (tRet te) N Γ S := fun σ F H e0 s c D o => h σ F H e0 s c _ o.rt
theorem x_asg {g : TG} (h : dEX K F0 te Γ S fun x S1 => dG K g x Γ S1 N.nx) : dSX K F0 (tAsg te g) N Γ S := fun σ F H e0 s c D o =>
  h σ F H e0 s c _ fun v F1 H1 x S1 e1 c1 o1 h1 => h1 v σ F1 H1 (s.mono e1) c1 o1 _ (o.nx.mono e1)
/-- an own class without __init__ is raised -/
theorem x_raise {C : Addr} (hW : PostW K F0 Xp W) (h : Xp C none Γ S) : dSX K F0 (fun _ σ H => (fun (_ : L2.St) (H : Hp) (Q : XK) => Q (.ref C) none H) σ H fun cls d H' => W cls d σ H') N Γ S := fun σ F H e0 s c D o =>
  hW C none σ F H Γ S e0 s c h
/-- None, or an int that can be shown, as a field -/
inductive FldV : Va → V → Prop
  | non : FldV (.d .none) .non
  | int (i : Int) (h : i.natAbs.log2 < 1920) : FldV (.d (.int i)) (.int i)
theorem x_raiseI {C : Addr} {f : Str} {ta : TA} (hW : PostW K F0 Xp W) (h : dA K ta Γ S fun xs S1 => ∃ x v, xs = [x] ∧ FldV x v ∧ ∀ dd, Xp C (some dd) Γ ((dd, .any (.xd [(f, v)])) :: S1)) : dSX K F0 (fun _ σ H => tMkXi C f ta σ H fun cls d H' => W cls d σ H') N Γ S := fun σ F H e0 s c D o =>
  h σ F H s c _ fun vs F1 H1 xs S1 e1 c1 o1 ⟨x, v, ex, hv, q⟩ => by
    subst ex
    obtain _ | ⟨o2, _ | _⟩ := o1
    cases hv with
    | non =>
      cases o2
      exact ⟨_, rfl, .inl rfl, fun dd hd => hW C (some dd) σ F1 _ Γ _ (e0.trans e1) (s.mono e1) (c1.newO hd _) (q dd)⟩
    | int i hi =>
      cases o2
      exact ⟨_, rfl, .inr ⟨i, rfl, hi⟩, fun dd hd => hW C (some dd) σ F1 _ Γ _ (e0.trans e1) (s.mono e1) (c1.newO hd _) (q dd)⟩
/-! ### expressions -/
theorem e_lift (h : dE K te Γ S Q) : dEX K F0 te Γ S Q := fun σ F H _ s c Q' p => h σ F H s c Q' p
theorem a_lift {t : TA} {Q : List Va → Sto → Prop} (h : dA K t Γ S Q) : dAX K F0 t Γ S Q := fun σ F H _ s c Q' p => h σ F H s c Q' p
theorem a_cons {t : TA} {Q : List Va → Sto → Prop} (h : dEX K F0 te Γ S fun x S1 => dAX K F0 t Γ S1 fun xs S2 => Q (x :: xs) S2) : dAX K F0 (tCons te t) Γ S Q := fun σ F H e0 s c Q' p =>
  h σ F H e0 s c _ fun v F1 H1 x S1 e1 c1 o1 h1 => h1 σ F1 H1 (e0.trans e1) (s.mono e1) c1 _ fun vs F2 H2 xs S2 e2 c2 o2 h2 => p _ F2 H2 _ S2 (e1.trans e2) c2 (.cons (o1.mono e2) o2) h2
theorem e_cb {r : List V → Hp → VK → Prop} {t : TA} (h : dAX K F0 t Γ S fun xs S1 => dRL K r xs S1 Q) : dEX K F0 (tCB r t) Γ S Q := fun σ F H e0 s c Q' p =>
  h σ F H e0 s c _ fun vs F1 H1 xs S1 e1 c1 o1 h1 => h1 vs F1 H1 c1 o1 Q' (p.mono e1)
/-- a call of a def that may raise -/
theorem e_callX {β : Type} {sx : XSpec β} {t : TA} (hW : PostW K F0 Xp W) (h : dA K t Γ S fun xs S1 => ∃ a, sx.pre a xs S1 ∧ (∀ x S', sx.post a S1 x S' → Q x S') ∧ ∀ C d S', sx.xp a S1 C d S' → Xp C d Γ S') : dEX K F0 (tCallS (spX K sx) (WE W) t) Γ S Q := fun σ F H e0 s c Q' p =>
  h σ F H s c _ fun vs F1 H1 xs S1 e1 c1 o1 ⟨a, h1, h2, h3⟩ =>
    ⟨F1, xs, S1, a, c1, o1, h1, fun v F2 H2 x S2 e2 c2 o2 q => p v F2 H2 x S2 (e1.trans e2) c2 o2 (h2 x S2 q), fun C d F2 H2 S2 e2 c2 q => hW C d σ F2 H2 Γ S2 (e0.trans (e1.trans e2)) (s.mono (e1.trans e2)) c2 (h3 C d S2 q)⟩
/-- the same, by either of its two promises -/
theorem e_callM {α β : Type} {sp : Spec α} {sx : XSpec β} {t : TA} (hW : PostW K F0 Xp W) (h : dA K t Γ S fun xs S1 => (∃ a, sp.pre a xs S1 ∧ ∀ x S', sp.post a S1 x S' → Q x S') ∨ ∃ a, sx.pre a xs S1 ∧ (∀ x S', sx.post a S1 x S' → Q x S') ∧ ∀ C d S', sx.xp a S1 C d S' → Xp C d Γ S') : dEX K F0 (tCallS (spM K sp sx) (WE W) t) Γ S Q := fun σ F H e0 s c Q' p =>
  h σ F H s c _ fun vs F1 H1 xs S1 e1 c1 o1 h1 => by
    rcases h1 with ⟨a, h1, h2⟩ | ⟨a, h1, h2, h3⟩
    · exact .inl ⟨F1, xs, S1, a, c1, o1, h1, fun v F2 H2 x S2 e2 c2 o2 q => p v F2 H2 x S2 (e1.trans e2) c2 o2 (h2 x S2 q)⟩
    · exact .inr ⟨F1, xs, S1, a, c1, o1, h1, fun v F2 H2 x S2 e2 c2 o2 q => p v F2 H2 x S2 (e1.trans e2) c2 o2 (h2 x S2 q), fun C d F2 H2 S2 e2 c2 q => hW C d σ F2 H2 Γ S2 (e0.trans (e1.trans e2)) (s.mono (e1.trans e2)) c2 (h3 C d S2 q)⟩
/-! ### a walk whose turns may raise -/
theorem x_for {wi : TI} {g : TG} {tb : TS} (h : dI K wi Γ S fun n Ok Y S1 => ∃ I : Nat → Env → Sto → Prop, I 0 Γ S1 ∧ (∀ i Γ' S', I i Γ' S' → Ok S') ∧
    (∀ i Γ' S' y S2, i < n → I i Γ' S' → Y i y S' S2 → dG K g y Γ' S2 fun Γ2 S3 => dSX K F0 tb { nx := I (i + 1), ct := I (i + 1), bk := N.nx, rt := N.rt } Γ2 S3) ∧ ∀ Γ' S', I n Γ' S' → N.nx Γ' S') : dSX K F0 (tFor wi g tb) N Γ S := fun σ F H e0 s c D o =>
  h σ F H s c _ fun J n Ok Y F1 H1 S1 e1 c1 hJ ⟨I, i0, hok, step, fin⟩ => by
    refine ⟨fun i m σ' H' => m = n - i ∧ i ≤ n ∧ ∃ F2 Γ2 S2, Same F1 F2 ∧ Slots K F2 Γ2 σ' ∧ Cf K S2 F2 H' ∧ I i Γ2 S2, ⟨_, rfl, Nat.zero_le _, F1, Γ, S1, .refl _, s.mono e1, c1, i0⟩, ?_⟩
    rintro i m σ' H' ⟨rfl, hi, F2, Γ2, S2, e2, s2, c2, i2⟩
    obtain ⟨st, go⟩ := hJ i F2 H' S2 e2 c2 (hok i Γ2 S2 i2)
    by_cases hlt : i < n
    · obtain ⟨g1, g2⟩ := go hlt
      refine .inr ⟨g1, fun σ3 H3 => ∃ F3 Γ3 S3, Same F1 F3 ∧ Slots K F3 Γ3 σ3 ∧ Cf K S3 F3 H3 ∧ I (i + 1) Γ3 S3, fun σ3 H3 p => ⟨n - (i + 1), by omega, rfl, hlt, p⟩, fun w H3 hy => ?_⟩
      obtain ⟨F3, S3, y, e3, c3, o3, y3⟩ := g2 w H3 hy
      have e13 := e2.trans e3
      refine step i Γ2 S2 y S3 hlt i2 y3 w σ' F3 H3 (s2.mono e3) c3 o3 _ fun σ4 F4 H4 Γ4 S4 e4 s4 c4 q => ?_
      have e14 := e13.trans e4
      exact q σ4 F4 H4 (e0.trans (e1.trans e14)) s4 c4 _ ⟨fun σ5 F5 H5 Γ5 S5 e5 s5 c5 q5 => ⟨F5, Γ5, S5, e14.trans e5, s5, c5, q5⟩, o.rt.mono (e1.trans e14), o.nx.mono (e1.trans e14), fun σ5 F5 H5 Γ5 S5 e5 s5 c5 q5 => ⟨F5, Γ5, S5, e14.trans e5, s5, c5, q5⟩⟩
    · have e : i = n := by omega
      subst e
      exact .inl ⟨st (Nat.le_refl _), o.nx.mono (e1.trans e2) σ' F2 H' Γ2 S2 (.refl F2) s2 c2 (fin Γ2 S2 i2)⟩
/-- try: body, except as n: suite -/
theorem s_try {c : Value} {i : Nat} {tb : WX → TS} {ts : Addr → Value → Option Addr → TS} (Xp : Addr → Option Addr → Env → Sto → Prop)
    (hx : ∀ C d Γ' S', Xp C d Γ' S' → PySem.W.exmOne K (.ref C) c = some true ∧ ∀ a, dS K (ts a (.ref C) d) { nx := fun Γ2 S2 => N.nx (Γ2.set i none) S2, rt := N.rt } (Γ'.set i (some (.o (.ref a)))) S')
    (h : ∀ F0 W, PostW K F0 Xp W → dSX K F0 (tb W) N Γ S) : dS K (fun D σ H => tb (wAs K c i ts (fun _ _ _ _ => False) D) D σ H) N Γ S := fun σ F H s cf D o => by
  refine h F _ (fun C d σ' F' H' Γ' S' e s' c' q => ?_) σ F H (.refl F) s cf D o
  obtain ⟨h1, h2⟩ := hx C d Γ' S' q
  refine ⟨true, h1, fun _ a _ => ?_, fun z => by cases z⟩
  refine h2 a _ F' H' (s'.set i okO) c' _ ⟨fun σ2 F2 H2 Γ2 S2 e2 s2 c2 q2 => ?_, o.rt.mono e, fun _ _ _ _ _ _ _ _ z => z.elim, fun _ _ _ _ _ _ _ _ z => z.elim⟩
  exact o.nx _ F2 H2 _ S2 (e.trans e2) (pset (R := Sl K F2) (x := none) (y := none) trivial i s2) c2 q2
end
/-- from the body's reading -/
theorem fn_X {K : PySem.W.Frag} {P : Program} {w : World} {mg : Str → Option Value} {base : Heap} {α : Type} {sp : XSpec α} {qn qual : Str} {st : Stmt} {f : Addr} {fd : FuncData} {N ps : List Str} {k : Nat} (Fn : Fun K qn qual st f fd) (Sc : FnScope N ps (defScope st))
    (few : ∀ a xs S, sp.pre a xs S → xs.length = ps.length)
    (hb : ∀ (cdv : Value) (A : Around) (outer : List PySem.Env) (s : Shared) (H : Hp) (E : XK), Room k (A.deeper (envOfC qual (defScope st) s.heap.objs.size f cdv)) → Gd (A.deeper (envOfC qual (defScope st) s.heap.objs.size f cdv)) →
      ∃ t, PSs (cxOf (L2N.CX P w) P w K mg base N qual (defScope st) f cdv A outer s H E) (defBody st) t ∧
        ∀ a xs S F0, sp.pre a xs S → PostW K F0 (fun C d _ S' => sp.xp a S C d S') (fun cls d _ H => E cls d H) → dSX K F0 t { nx := fun _ S' => sp.post a S (.d .none) S', rt := sp.post a S } (startA N xs) S) :
    FnG P w K mg base (L2N.CX P w) (k + 1) f fd ps (spX K sp) := by
  refine fnG_of Fn Sc (fun vs H Q E ⟨F, xs, S, a, _, o, pre, _⟩ => (by rw [← plen o]; exact few a xs S pre)) ?_
  rintro cdv A outer s H vs Q E hr gd ⟨F, xs, S, a, c, o, pre, post, postx⟩
  obtain ⟨t, h1, h2⟩ := hb cdv A outer s H E hr gd
  exact ⟨t, h1, h2 a xs S F pre (fun C d σ' F' H' Γ' S' e _ c' q => postx C d F' H' S' e c' q) _ F H (.refl F) (slots_start o) c _ ⟨fun σ' F' H' Γ' S' e s' c' q => post _ F' H' _ S' e c' (okD .non) q, post, fun _ _ _ _ _ _ _ _ z => z.elim, fun _ _ _ _ _ _ _ _ z => z.elim⟩⟩
end DL

/-! EXH: what a suite does with the exception it holds: isinstance, fields, defs called with it. -/
namespace DL
open PySem PySem.Spec PyProof.Rows L2

/-! ### the exception's dict, as the heap has it -/
def DctH (d : Option Addr) (H : Hp) : Prop := d = none ∨ ∃ dd fs, d = some dd ∧ H dd = some (.xd fs)
theorem inst_at {X : Cx} {pins : List (Addr × Obj)} {σ : L2.St} {H : Hp} {s : Shared} {a D : Addr} {oe : Obj} {d : Option Addr} (I : Inv X pins σ H s) (hp : (a, oe) ∈ X.pn) (hz : L2N.Zn (.ref D) d oe) (hf : ∃ vs, oe.data = .fields vs) (hd : DctH d H) : ∃ od, PySem.W.InstAt s.heap a oe D od := by
  obtain ⟨hget, _⟩ := I.pin (a, oe) (List.mem_append_left _ hp)
  obtain ⟨vs, hv⟩ := hf
  have hno : PySem.W.notCls oe = true := by
    unfold PySem.W.notCls
    rw [hv] <;> rfl
  rcases hd with rfl | ⟨dd, fs, rfl, e⟩
  · refine ⟨none, hget, hz.1, hno, ?_⟩
    rw [hz.2.1]
    trivial
  · obtain ⟨mA, hns, hr⟩ := (show ObjOk X.prog X.w H s.heap dd (.xd fs) from I.hok dd _ e)
    obtain ⟨od, ho, hl⟩ := lookIn_ns hns
    refine ⟨some od, hget, hz.1, hno, ?_⟩
    rw [hz.2.1]
    exact ho
theorem exc_kit {K : PySem.W.Frag} {D a : Addr} {oe : Obj} {od : Option Obj} (C : ExcC K D) : PySem.W.KitX K (.ref a) (.ref D) (fun h => PySem.W.InstAt h a oe D od) :=
  PySem.W.kitx_exc (by obtain ⟨cd, h, _⟩ := PySem.W.any_some C.hd; rw [h]; rfl) C.hg C.hk C.hs C.ha C.hn C.ht C.hm
/-- isinstance(e, c), e the exception that is handled -/
def rIsP (K : PySem.W.Frag) (cls : Value) (d : Option Addr) (a : Addr) : List V → Hp → VK → Prop := fun xs H Q => ∃ D, cls = .ref D ∧ ExcC K D ∧ DctH d H ∧ ∃ (c : V) (cv : Value) (b : Bool), xs = [.ref a, c] ∧ ClsV c cv ∧ PySem.W.kitOne K (.ref D) cv = some b ∧ Q (.bl b) H
/-- isinstance(e, (c, ..)) -/
def rIsPT (K : PySem.W.Frag) (cls : Value) (d : Option Addr) (a : Addr) : List V → Hp → VK → Prop := fun xs H Q => ∃ D, cls = .ref D ∧ ExcC K D ∧ DctH d H ∧ ∃ (tp : Addr) (cs : List V) (us : List Value) (b : Bool), xs = [.ref a, .ref tp] ∧ H tp = some (.tup cs) ∧ Paired ClsV cs us ∧ PySem.W.kitAny K (.ref D) us = some b ∧ Q (.bl b) H
section
variable {X : Cx} {a : Addr} {oe : Obj} {cls : Value} {d : Option Addr}
theorem k_isP (K : PySem.W.Frag) (hp : (a, oe) ∈ X.pn) (hz : L2N.Zn cls d oe) (hf : ∃ vs, oe.data = .fields vs) (hK : X.K = K := by rfl) : CallR X (.builtin "isinstance") (rIsP K cls d a) := by
  subst hK
  rintro pins s σ H xs us Q I r ⟨D, rfl, C, hd, c, cv, b, rfl, hc, e, q⟩
  obtain ⟨u1, u2, rfl, r1, r2⟩ := vals2 r
  cases (show u1 = Value.ref a from r1)
  have e2 := hc.eq r2
  subst e2
  obtain ⟨od, J⟩ := inst_at I hp hz hf hd
  exact PySem.W.kia_one (exc_kit C) I.kIn J e (fun z => nomatch z) fun tk => ⟨.bl b, H, I.tok tk, rfl, q⟩
theorem k_isPT (K : PySem.W.Frag) (hp : (a, oe) ∈ X.pn) (hz : L2N.Zn cls d oe) (hf : ∃ vs, oe.data = .fields vs) (hK : X.K = K := by rfl) : CallR X (.builtin "isinstance") (rIsPT K cls d a) := by
  subst hK
  rintro pins s σ H xs us Q I r ⟨D, rfl, C, hd, tp, cs, ws, b, rfl, hT, hc, e, q⟩
  obtain ⟨u1, u2, rfl, r1, r2⟩ := vals2 r
  cases (show u1 = Value.ref a from r1)
  cases (show u2 = Value.ref tp from r2)
  obtain ⟨od, J⟩ := inst_at I hp hz hf hd
  obtain ⟨_, its, rv, o, h1, h2, n, h3⟩ := (show ObjOk X.prog X.w H s.heap tp (.tup cs) from I.hok tp _ hT)
  have e3 := ClsV.all hc rv
  subst e3
  obtain ⟨oc, odd, dt, sl⟩ := o
  dsimp only at h2 h3
  subst h2 h3
  exact PySem.W.kia_tup (exc_kit C) I.kIn J h1 e (fun z => nomatch z) fun tk => ⟨.bl b, H, I.tok tk, rfl, q⟩
/-- e.f -/
def tXfP (K : PySem.W.Frag) (a : Addr) (cls : Value) (d : Option Addr) (f : Str) (te : TE) : TE := fun σ H Q => te σ H fun x H1 => x = .ref a ∧ ∃ C, cls = .ref C ∧ XfC K C ∧ PySem.W.findIn K (.ref C) f = some none ∧ ∃ (dd : Addr) (fs : List (Str × V)) (v : V), d = some dd ∧ H1 dd = some (.xd fs) ∧ fs.lookup f = some v ∧ Q v H1
theorem pe_xfP {e : Expr} {te : TE} {pos : Pos} {n : Str} (K : PySem.W.Frag) (hp : (a, oe) ∈ X.pn) (hz : L2N.Zn cls d oe) (hf : ∃ vs, oe.data = .fields vs) (he : PE X e te) (hK : X.K = K := by rfl) (hb : attributeBase e n X.env (eval e X.env) = eval e X.env := by rfl) : PE X (.Attribute e n pos) (tXfP K a cls d n te) := by
  subst hK
  constructor
  intro pins s σ H Q I h
  refine attr_of hb (thn (he.run pins s σ H _ I h) fun u s1 hh => ?_)
  obtain ⟨x, H1, I1, rx, ex, C, rfl, T, hno, dd, fs, v, rfl, ea, l, q⟩ := hh
  subst ex
  cases (show u = Value.ref a from rx)
  obtain ⟨ha, _⟩ := I1.pin (a, oe) (List.mem_append_left _ hp)
  obtain ⟨vs, hd⟩ := hf
  obtain ⟨mA, hns, hr⟩ := (show ObjOk X.prog X.w H1 s1.heap dd (.xd fs) from I1.hok dd _ ea)
  obtain ⟨od, ho, hl⟩ := lookIn_ns hns
  obtain ⟨u, hu, ru⟩ := RelO.some_of (v := v) (o := mA n) (by rw [← l]; exact hr n)
  have J : PySem.W.InstAt s1.heap a oe C (some od) := ⟨ha, hz.1, by unfold PySem.W.notCls; rw [hd] <;> rfl, by rw [hz.2.1]; exact ho⟩
  exact HandSPX.exc_get I1.kIn J T.ga T.gg T.exC (PySem.W.findObj_own T.hdC hno rfl (by rw [hl, hu])) (handed_of ru) ⟨v, H1, I1.tok _, ru, q⟩
end
/-! ### over data -/
section
variable {K : PySem.W.Frag} {S : Sto} {Γ : Env} {Q : QE} {te : TE} {x y z : Va} {a D : Addr} {d : Option Addr}
/-- the exception's dict in a store -/
def DctS (d : Option Addr) (S : Sto) : Prop := d = none ∨ ∃ dd fs, d = some dd ∧ (dd, Ce.any (.xd fs)) ∈ S
theorem DctS.h {F H : Hp} (c : Cf K S F H) (h : DctS d S) : DctH d H := h.imp id fun ⟨dd, fs, e, m⟩ => ⟨dd, fs, e, c.ok _ m⟩
theorem DctS.sub {S' : Sto} (h : DctS d S) (hs : ∀ q ∈ S, q ∈ S') : DctS d S' := h.imp id fun ⟨dd, fs, e, m⟩ => ⟨dd, fs, e, hs _ m⟩
inductive ClsA : Va → Value → Prop
  | ty (n : String) : ClsA (.o (.ty n)) (.type n)
  | own (C : Addr) : ClsA (.o (.ref C)) (.ref C)
theorem ClsA.v {F : Hp} {x : Va} {u : Value} {v : V} (h : ClsA x u) (o : VaOk K F x v) : ClsV v u := by
  cases h with
  | ty n =>
    cases (show v = .ty n from o)
    exact .ty n
  | own C =>
    cases (show v = .ref C from o)
    exact .own C
theorem ClsA.vs {F : Hp} : ∀ {xs : List Va} {us : List Value} {vs : List V}, Paired ClsA xs us → Paired (VaOk K F) xs vs → Paired ClsV vs us
  | _, _, _, .nil, .nil => .nil
  | _, _, _, .cons h t, .cons o p => .cons (h.v o) (ClsA.vs t p)
theorem r_isP {c : Va} {cv : Value} {b : Bool} (C : ExcC K D) (hd : DctS d S) (hc : ClsA c cv) (e : PySem.W.kitOne K (.ref D) cv = some b) (q : Q (.d (.bool b)) S) : dRL K (rIsP K (.ref D) d a) [.o (.ref a), c] S Q := fun vs F H cf o Q' p => by
  obtain _ | ⟨o1, _ | ⟨o2, _ | _⟩⟩ := o
  cases o1
  exact ⟨D, rfl, C, hd.h cf, _, cv, b, rfl, hc.v o2, e, p _ F H _ S (.refl F) cf (okD (.bl b)) q⟩
/-- isinstance(e, (c, ..)) -/
theorem v_isPT {ta : TA} (C : ExcC K D) (h : dE K te Γ S fun x S1 => x = .o (.ref a) ∧ dA K ta Γ S1 fun xs S2 => xs.length ≤ 100 ∧ DctS d S2 ∧ ∃ us b, Paired ClsA xs us ∧ PySem.W.kitAny K (.ref D) us = some b ∧ Q (.d (.bool b)) S2) : dE K (tCB (rIsPT K (.ref D) d a) (tCons te (tCons (tTup ta) tNil))) Γ S Q := fun σ F H s c Q' p =>
  h σ F H s c _ fun v F1 H1 x S1 e1 c1 o1 ⟨ex, h1⟩ => by
    subst ex
    cases o1
    refine h1 σ F1 H1 (s.mono e1) c1 _ fun vs F2 H2 xs S2 e2 c2 o2 ⟨hz, hd, us, b, hu, hk, q⟩ => ?_
    refine ⟨by rw [← plen o2]; exact sz_le (by omega), fun tp htp => ?_⟩
    refine ⟨D, rfl, C, (hd.h c2).imp id fun ⟨dd, fs, e, m⟩ => ⟨dd, fs, e, ?_⟩, tp, vs, us, b, rfl, upd_same, ClsA.vs hu o2, hk, p _ F2 _ _ S2 (e1.trans e2) ((c2.newT htp o2).sub (List.sublist_cons_self _ _)) (okD (.bl b)) q⟩
    rw [upd_ne (ne_of_none m htp)]
    exact m
/-- e.f -/
theorem d_xf {f : Str} {dd : Addr} {fs : List (Str × V)} {v : V} (T : XfC K D) (hno : PySem.W.findIn K (.ref D) f = some none) (h : dE K te Γ S fun x S1 => x = .o (.ref a) ∧ (dd, Ce.any (.xd fs)) ∈ S1 ∧ fs.lookup f = some v ∧ ∃ y, FldV y v ∧ Q y S1) : dE K (tXfP K a (.ref D) (some dd) f te) Γ S Q := fun σ F H s c Q' p =>
  h σ F H s c _ fun u F1 H1 x S1 e1 c1 o1 ⟨ex, m, hl, y, hy, q⟩ => by
    subst ex
    cases o1
    refine ⟨rfl, D, rfl, T, hno, dd, fs, v, rfl, c1.ok _ m, hl, p v F1 H1 y S1 e1 c1 ?_ q⟩
    cases hy with
    | non => exact okD .non
    | int i hi => exact okD (.int i)
end
/-! ### defs called with it -/
structure FnE (P : Program) (w : World) (K : PySem.W.Frag) (mg : Str → Option Value) (base : Heap) (k : Nat) (f : Addr) (fd : FuncData) (ps : List Str) (sp : Addr → Value → Option Addr → Sp) : Prop where
  few : ∀ a cls d vs H Q E, sp a cls d vs H Q E → vs.length = ps.length
  go : ∀ A outer s H args us vs Q E a oe cls d, L2H.RoomH k A → Gd A → L2H.Hot1 A (a, oe) → L2H.PinOk outer H s (a, oe) → L2N.Zn cls d oe → (∃ vs, oe.data = .fields vs) → Env0 P w K mg base A outer s H → BindsTo s fd args (ps.zip us) → Vals vs us → sp a cls d vs H Q E →
    codeAny (model P w) A (.call (.ref f) args) (CR CX0 outer P w H s Q E) s
theorem gd_mark {A : Around} {v : Option Value} (g : Gd A) : Gd (A.mark v) := g
theorem roomH_mark {A : Around} {k : Nat} {v : Option Value} (r : Room k A) : L2H.RoomH k (A.mark v) := ⟨r.dp, r.un⟩
section
variable {P : Program} {w : World} {K : PySem.W.Frag} {mg : Str → Option Value} {base : Heap}
theorem fnE_of {qn qual : Str} {st : Stmt} {f : Addr} {fd : FuncData} {N ps : List Str} {k : Nat} {sp : Addr → Value → Option Addr → Sp} (Fn : Fun K qn qual st f fd) (Sc : FnScope N ps (defScope st)) (few : ∀ a cls d vs H Q E, sp a cls d vs H Q E → vs.length = ps.length)
    (hb : ∀ cdv A outer s H vs Q E a oe cls d, L2H.RoomH k (A.deeper (envOfC qual (defScope st) s.heap.objs.size f cdv)) → Gd (A.deeper (envOfC qual (defScope st) s.heap.objs.size f cdv)) → L2N.Zn cls d oe → (∃ vs, oe.data = .fields vs) → (A.deeper (envOfC qual (defScope st) s.heap.objs.size f cdv)).handled = some (.ref a) → sp a cls d vs H Q E →
      ∃ t, PSs (L2H.cxH CX0 P w K mg base N qual (defScope st) f cdv A outer s H E (a, oe)) (defBody st) t ∧ t { nx := fun _ H' => Q .non H', rt := Q } (L2.start N vs) H) : FnE P w K mg base (k + 1) f fd ps sp := by
  obtain ⟨_, _, kw, doc, pm, an, cdv, ct, _, rfl, lk, hcd⟩ := Fn.ex
  refine ⟨few, fun A outer s H args us vs Q E a oe cls d room gd hot hpin hz hf e0 bd rel hsp => ?_⟩
  have inS : K.In s.heap := e0.mod.kin.keeps fun b o z => (e0.bs b o z).1
  have names : ∀ y ∈ ps.zip us, (defScope st).names.lookup y.1 = some .local ∨ ((defScope st).names.lookup y.1 = some .cell ∧ ((cellsFrom (s.heap.objs.size + 1) (defScope st).names []).lookup y.1).isSome = true) := by
    rintro ⟨n, v⟩ hy
    refine (Sc.par n (List.of_mem_zip hy).1).imp id fun q => ⟨q, ?_⟩
    exact PySem.W.cellsFrom_some _ _ _ (.inl q)
  apply codeAny_call_function room.depth (inS _ _ lk) rfl Sc.co Sc.gen rfl (PySem.W.codeRec_of inS hcd)
  apply bd
  refine wpAny_newFunctionEnv_cells Sc.kind names ?_
  rintro _ rfl s1 x
  refine ⟨(e0.mod.nolimit.keeps fun b o z => (e0.bs b o z).1).keeps x.toInCall.keep, codeAny_func ?_⟩
  obtain ⟨t, ht, hq⟩ := hb cdv A outer s H vs Q E a oe cls d (room.deeper _) (gd.deeper _) hz hf hot.1 hsp
  have I := L2H.inv_startH (CX := CX0) (mg := mg) (base := base) (E := E) (qual := qual) (cd := cdv) (f := f) Sc hpin e0 (few _ _ _ _ _ _ _ hsp) rel x
  refine wpAny_mono (ht.run [] s1 (L2.start N vs) H _ I hq) (fun fl s2 hs => ?_) fun _ _ z => z
  match fl, hs with
  | .ret _, ⟨v, _, H2, J, rv, q⟩ => exact ⟨v, H2, J.os, J.bare, J.base, J.hok, rv, q⟩
  | .next, ⟨_, H2, J, q⟩ => exact ⟨.non, H2, J.os, J.bare, J.base, J.hok, rfl, q⟩
  | .brk, ⟨_, _, _, q⟩ => exact q.elim
  | .cont, ⟨_, _, _, q⟩ => exact q.elim
end
structure ESpec (α : Type) where
  pre : α → Addr → Value → Option Addr → List Va → Sto → Prop
  post : α → Sto → Va → Sto → Prop
def spE (K : PySem.W.Frag) {α : Type} (sp : ESpec α) (a : Addr) (cls : Value) (d : Option Addr) : Sp := fun vs H Q _ => ∃ (F : Hp) (xs : List Va) (S : Sto) (g : α), Cf K S F H ∧ Paired (VaOk K F) xs vs ∧ sp.pre g a cls d xs S ∧ PostE K F (sp.post g S) Q
theorem fn_E {K : PySem.W.Frag} {P : Program} {w : World} {mg : Str → Option Value} {base : Heap} {α : Type} {sp : ESpec α} {qn qual : Str} {st : Stmt} {f : Addr} {fd : FuncData} {N ps : List Str} {k : Nat} (Fn : Fun K qn qual st f fd) (Sc : FnScope N ps (defScope st))
    (few : ∀ g a cls d xs S, sp.pre g a cls d xs S → xs.length = ps.length)
    (hb : ∀ (cdv : Value) (A : Around) (outer : List PySem.Env) (s : Shared) (H : Hp) (E : XK) (a : Addr) (oe : Obj) (cls : Value) (d : Option Addr), L2H.RoomH k (A.deeper (envOfC qual (defScope st) s.heap.objs.size f cdv)) → Gd (A.deeper (envOfC qual (defScope st) s.heap.objs.size f cdv)) → L2N.Zn cls d oe → (∃ vs, oe.data = .fields vs) → (A.deeper (envOfC qual (defScope st) s.heap.objs.size f cdv)).handled = some (.ref a) →
      ∃ t, PSs (L2H.cxH CX0 P w K mg base N qual (defScope st) f cdv A outer s H E (a, oe)).nox (defBody st) t ∧ ∀ g xs S, sp.pre g a cls d xs S → dS K t { nx := fun _ S' => sp.post g S (.d .none) S', rt := sp.post g S } (startA N xs) S) :
    FnE P w K mg base (k + 1) f fd ps (spE K sp) := by
  refine fnE_of Fn Sc (fun a cls d vs H Q E ⟨F, xs, S, g, _, o, pre, _⟩ => (by rw [← plen o]; exact few g a cls d xs S pre)) ?_
  rintro cdv A outer s H vs Q E a oe cls d hr gd hz hf hh ⟨F, xs, S, g, c, o, pre, post⟩
  obtain ⟨t, h1, h2⟩ := hb cdv A outer s H E a oe cls d hr gd hz hf hh
  exact ⟨t, h1.nox, h2 g xs S pre _ F H (slots_start o) c _ ⟨fun σ' F' H' Γ' S' e s' c' q => post _ F' H' _ S' e c' (okD .non) q, post, fun _ _ _ _ _ _ _ _ z => z.elim, fun _ _ _ _ _ _ _ _ z => z.elim⟩⟩
structure CalE (P : Program) (w : World) (K : PySem.W.Frag) (mg : Str → Option Value) (base : Heap) (k : Nat) (nm : Str) (a : Addr) (fd : FuncData) (ps : List Str) (sp : Addr → Value → Option Addr → Sp) : Prop where
  G : FnE P w K mg base k a fd ps sp
  g : mg nm = some (.ref a)
  kp : PySem.W.keepIn K (.ref a) = true
  b : Binds K fd ps []
section
variable {X : Cx} {k : Nat} {f a : Addr} {oe : Obj} {cls : Value} {d : Option Addr} {fd : FuncData} {ps : List Str} {sp : Addr → Value → Option Addr → Sp} {x : Str} {p pos : Pos} {e : Expr} {es : List Expr} {t : TA}
theorem gcallE (G : FnE X.prog X.w X.K X.mg X.base k f fd ps sp) (hp : (a, oe) ∈ X.pn) (hh : X.A.handled = some (.ref a)) (hz : L2N.Zn cls d oe) (hf : ∃ vs, oe.data = .fields vs) (hr : L2H.RoomH k X.A) (gd : Gd X.A) (gl : Gl X x) (hm : X.mg x = some (.ref f)) (kp : PySem.W.keepIn X.K (.ref f) = true) (hb : Binds X.K fd ps []) (ha : PA X (e :: es) t)
    (hdb : (x == ("__debug__" : Str)) = false := by decide) (he : starEach (e :: es) X.env = (false, eval e X.env) :: starEach es X.env := by rfl) (hpl : (backTo pos (starEach es X.env)).any (·.1) = false := by rfl) :
    PE X (.Call (.Name x p) (e :: es) [] pos) (tCall (sp a cls d) [] E0 t) := by
  constructor
  intro pins s σ H Q I h
  refine wpAny_Call_Name_kw (ld_glob I gl hm ?_ hdb)
  refine PySem.W.callWith_K (h₀ := X.base) I.ok.mod.kin kp (thn (ha.run pos pins s σ H _ I h) fun us s1 hh2 => ?_) he hpl
  obtain ⟨vs, H1, J, r, q⟩ := hh2
  rw [List.append_nil] at q
  refine ⟨J.kIn, ?_⟩
  have all : us.length = ps.length := by
    rw [← r.length]
    exact G.few _ _ _ _ _ _ _ q
  have b := hb s1 us J.kIn (by rw [List.append_nil]; exact all)
  rw [List.append_nil] at b
  have P1 := J.pin (a, oe) (List.mem_append_left _ hp)
  have hpin : L2H.PinOk X.stack H1 s1 (a, oe) := ⟨P1.1, P1.2.1, fun hm => (List.mem_cons.mp (J.stkSub a hm)).elim P1.2.2.1 P1.2.2.2.1, P1.2.2.2.2⟩
  have hot : L2H.Hot1 X.A (a, oe) := by
    obtain ⟨vs, hv⟩ := hf
    exact ⟨hh, vs, hv, hz.2.2 vs hv⟩
  refine wpAny_call (codeAny_mono (G.go X.A X.stack s1 H1 _ us vs Q E0 a oe cls d hr gd hot hpin hz hf J.env0 b r q) fun r s' hq => ?_)
  match r, hq with
  | .error e, hq => exact hq.elim
  | .ok (.ret _), hq => exact J.after hq
  | .ok .next, hq => exact hq.elim
  | .ok .brk, hq => exact hq.elim
  | .ok .cont, hq => exact hq.elim
end
theorem d_callE {K : PySem.W.Frag} {S : Sto} {Γ : Env} {Q : QE} {α : Type} {sp : ESpec α} {a : Addr} {cls : Value} {d : Option Addr} {t : TA} (h : dA K t Γ S fun xs S1 => ∃ g, sp.pre g a cls d xs S1 ∧ ∀ x S', sp.post g S1 x S' → Q x S') : dE K (tCall (spE K sp a cls d) [] E0 t) Γ S Q := fun σ F H s c Q' p =>
  h σ F H s c _ fun vs F1 H1 xs S1 e1 c1 o1 ⟨g, h1, h2⟩ => by
    rw [List.append_nil]
    exact ⟨F1, xs, S1, g, c1, o1, h1, fun v F2 H2 x S2 e2 c2 o2 q => p v F2 H2 x S2 (e1.trans e2) c2 o2 (h2 x S2 q)⟩
/-! ### what is known of the error classes, by their names -/
def clsA (mg : Str → Option Value) (x : Str) : Addr := match mg x with
  | some (.ref a) => a
  | _ => 0
theorem clsA_of {mg : Str → Option Value} {x : Str} {C : Addr} (h : mg x = some (.ref C)) : clsA mg x = C := by
  unfold clsA
  rw [h]
/-- a class without __init__ that is raised -/
structure OwC (K : PySem.W.Frag) (mg : Str → Option Value) (x : Str) (C : Addr) : Prop where
  gC : mg x = some (.ref C)
  q : PySem.W.excIn K C [.type "ValueError", .type "Exception", .type "BaseException", .type "object"] "ValueError.__new__" = true
  kC : PySem.W.keepIn K (.ref C) = true
  bP : PySem.W.subIn K (.ref C) (.type "BaseException") = some true
  tP : PySem.W.typeIn K (.ref C) = some (.type "type")
theorem kit_ref {K : PySem.W.Frag} {D C : Addr} {b : Bool} (hd : PySem.W.hasDictIn K C = true) (ht : PySem.W.typeIn K (.ref C) = some (.type "type")) (hb : D = C → b = true) (h : PySem.W.subIn K (.ref D) (.ref C) = some b) : PySem.W.kitOne K (.ref D) (.ref C) = some b := by
  unfold PySem.W.kitOne
  by_cases c : (Value.ref D == Value.ref C) = true
  · rw [if_pos c, hb (Value.ref.inj (beq_iff_eq.mp c))]
  · rw [if_neg c]
    obtain ⟨cd, hc, _⟩ := PySem.W.any_some hd
    show (if ((PySem.W.clsIn K C).isSome && PySem.W.typeIn K (.ref C) == some (.type "type")) = true then PySem.W.subIn K (.ref D) (.ref C) else none) = some b
    rw [hc, ht]
    exact h
theorem kit_ve {K : PySem.W.Frag} {D : Addr} (h : PySem.W.subIn K (.ref D) (.type "ValueError") = some true) : PySem.W.kitOne K (.ref D) (.type "ValueError") = some true := by
  unfold PySem.W.kitOne
  rw [if_neg (by intro z; cases beq_iff_eq.mp z)]
  show (if PySem.W.kitMeta "ValueError" = true then PySem.W.subIn K (.ref D) (.type "ValueError") else none) = some true
  rw [if_pos (by decide +kernel)]
  exact h
structure ErrK (K : PySem.W.Frag) (mg : Str → Option Value) (RS TS : List Str) (FS : List (Str × Str)) : Prop where
  kit : ∀ D ∈ RS, ∀ C ∈ TS, PySem.W.kitOne K (.ref (clsA mg D)) (.ref (clsA mg C)) = some (decide (D = C))
  ve : ∀ D ∈ RS, PySem.W.kitOne K (.ref (clsA mg D)) (.type "ValueError") = some true
  exc : ∀ D ∈ RS, ExcC K (clsA mg D)
  exm : ∀ D ∈ RS, PySem.W.exmOne K (.ref (clsA mg D)) (.ref (clsA mg "GoesError")) = some true
  xf : ∀ p ∈ FS, XfC K (clsA mg p.1) ∧ PySem.W.findIn K (.ref (clsA mg p.1)) p.2 = some none
section
variable {K : PySem.W.Frag} {mg : Str → Option Value} {RS TS : List Str} {FS : List (Str × Str)} {S : Sto} {Γ : Env} {Q : QE} {te : TE} {a : Addr} {d : Option Addr} {D : Str}
theorem r_isC {nm : Str} (ek : ErrK K mg RS TS FS) (hD : D ∈ RS) (hC : nm ∈ TS) (hd : DctS d S) (q : Q (.d (.bool (decide (D = nm)))) S) : dRL K (rIsP K (.ref (clsA mg D)) d a) [.o (.ref a), .o (.ref (clsA mg nm))] S Q :=
  r_isP (ek.exc D hD) hd (.own _) (ek.kit D hD nm hC) q
theorem r_isV (ek : ErrK K mg RS TS FS) (hD : D ∈ RS) (hd : DctS d S) (q : Q (.d (.bool true)) S) : dRL K (rIsP K (.ref (clsA mg D)) d a) [.o (.ref a), .o (.ty "ValueError")] S Q :=
  r_isP (ek.exc D hD) hd (.ty _) (ek.ve D hD) q
theorem kitAny_names (ek : ErrK K mg RS TS FS) (hD : D ∈ RS) : ∀ {ns : List Str}, (∀ n ∈ ns, n ∈ TS) → PySem.W.kitAny K (.ref (clsA mg D)) (ns.map fun n => .ref (clsA mg n)) = some (ns.any fun n => decide (D = n))
  | [], _ => rfl
  | n :: ns, h => by
    rw [List.map_cons, List.any_cons]
    refine kitAny_cons (ek.kit D hD n (h n List.mem_cons_self)) (fun e => ?_) fun e => ?_
    · rw [e, Bool.false_or]
      exact kitAny_names ek hD fun m hm => h m (List.mem_cons_of_mem _ hm)
    · rw [e, Bool.true_or]
theorem paired_names {mg : Str → Option Value} : ∀ ns : List Str, Paired ClsA (ns.map fun n => Va.o (.ref (clsA mg n))) (ns.map fun n => Value.ref (clsA mg n))
  | [] => .nil
  | n :: ns => .cons (.own _) (paired_names ns)
/-- isinstance(e, (C, ..)), by their names -/
theorem v_isNT {ta : TA} (ek : ErrK K mg RS TS FS) (hD : D ∈ RS) (h : dE K te Γ S fun x S1 => x = .o (.ref a) ∧ dA K ta Γ S1 fun xs S2 => ∃ ns : List Str, xs = ns.map (fun n => Va.o (.ref (clsA mg n))) ∧ ns.length ≤ 100 ∧ (∀ n ∈ ns, n ∈ TS) ∧ DctS d S2 ∧ Q (.d (.bool (ns.any fun n => decide (D = n)))) S2) : dE K (tCB (rIsPT K (.ref (clsA mg D)) d a) (tCons te (tCons (tTup ta) tNil))) Γ S Q :=
  v_isPT (ek.exc D hD) (h.imp fun x S1 ⟨ex, h1⟩ => ⟨ex, h1.imp fun xs S2 ⟨ns, e, hz, hT, hd, q⟩ => ⟨by rw [e, List.length_map]; exact hz, hd, ns.map fun n => .ref (clsA mg n), _, by rw [e]; exact paired_names ns, kitAny_names ek hD hT, q⟩⟩)
end
section
variable {K : PySem.W.Frag} {mg : Str → Option Value} {RS TS : List Str} {FS : List (Str × Str)} {S : Sto} {Γ : Env} {Q : QE} {te : TE} {a : Addr} {d : Option Addr} {D : Str}
/-- the same, the answer said beforehand -/
theorem r_isCe {nm : Str} (b : Bool) (ek : ErrK K mg RS TS FS) (hD : D ∈ RS) (hC : nm ∈ TS) (e : decide (D = nm) = b) (hd : DctS d S) (q : Q (.d (.bool b)) S) : dRL K (rIsP K (.ref (clsA mg D)) d a) [.o (.ref a), .o (.ref (clsA mg nm))] S Q :=
  r_isC ek hD hC hd (by rw [e]; exact q)
theorem v_isNTe {ta : TA} (ns : List Str) (b : Bool) (ek : ErrK K mg RS TS FS) (hD : D ∈ RS) (hz : ns.length ≤ 100) (hT : ∀ n ∈ ns, n ∈ TS) (e : (ns.any fun n => decide (D = n)) = b) (h : dE K te Γ S fun x S1 => x = .o (.ref a) ∧ dA K ta Γ S1 fun xs S2 => xs = ns.map (fun n => Va.o (.ref (clsA mg n))) ∧ DctS d S2 ∧ Q (.d (.bool b)) S2) : dE K (tCB (rIsPT K (.ref (clsA mg D)) d a) (tCons te (tCons (tTup ta) tNil))) Γ S Q :=
  v_isNT ek hD (h.imp fun x S1 ⟨ex, h1⟩ => ⟨ex, h1.imp fun xs S2 ⟨e2, hd, q⟩ => ⟨ns, e2, hz, hT, hd, by rw [e]; exact q⟩⟩)
end
theorem takes0N {X : Cx} : L2N.Takes X (fun _ _ _ _ => False) := fun _ _ x => by
  obtain ⟨_, _, _, _, _, _, _, _, _, _, _, _, _, _, _, _, z⟩ := x
  exact z.elim
theorem roomH_units {k : Nat} {A : Around} (r : L2H.RoomH k A) : A.units + 64 < cLine := by
  have := r.un
  omega
def idxD : Option Nat → PyData
  | none => .none
  | some i => .int (i : Nat)
def idxV : Option Nat → V
  | none => .non
  | some i => .int (i : Nat)
/-- an exception with one field is on its way -/
def XpI (mg : Str → Option Value) (x f : Str) (o : Option Nat) (S : Sto) (C : Addr) (d : Option Addr) (S' : Sto) : Prop := C = clsA mg x ∧ ∃ dd, d = some dd ∧ S' = (dd, .any (.xd [(f, idxV o)])) :: S
/-- one without -/
def XpO (mg : Str → Option Value) (x : Str) (S : Sto) (C : Addr) (d : Option Addr) (S' : Sto) : Prop := C = clsA mg x ∧ d = none ∧ S' = S
/-- what goes up: a class with a field, one without -/
inductive Up
  | i (x f : Str) (o : Option Nat)
  | o (x : Str)
def XpU (mg : Str → Option Value) : Up → Sto → Addr → Option Addr → Sto → Prop
  | .i x f o => XpI mg x f o
  | .o x => XpO mg x
section
variable {K : PySem.W.Frag} {mg : Str → Option Value} {F0 : Hp} {S S0 : Sto} {Γ : Env} {N : DEnds} {W : WX} {x f : Str} {te : TE}
theorem x_weak {S' : Sto} {t : TS} (hs : List.Sublist S' S) (q : dSX K F0 t N Γ S') : dSX K F0 t N Γ S := fun σ F H e0 s c D o => q σ F H e0 s (c.sub hs) D o
theorem x_upN (hW : PostW K F0 (fun C d _ S' => XpI mg x f none S0 C d S') W) (e : S = S0) : dSX K F0 (fun _ σ H => tMkXi (clsA mg x) f (tCons (tC .non) tNil) σ H fun cls d H' => W cls d σ H') N Γ S := by
  subst e
  refine x_raiseI hW (d_acons (d_non (d_anil ?_)))
  exact ⟨_, _, rfl, .non, fun dd => ⟨rfl, dd, rfl, rfl⟩⟩
theorem x_upI {i : Nat} (hW : PostW K F0 (fun C d _ S' => XpI mg x f (some i) S0 C d S') W) (h : dE K te Γ S fun x S1 => x = .d (.int (i : Nat)) ∧ S1 = S0 ∧ i ≤ 1900) : dSX K F0 (fun _ σ H => tMkXi (clsA mg x) f (tCons te tNil) σ H fun cls d H' => W cls d σ H') N Γ S := by
  refine x_raiseI hW (d_acons (h.imp fun y S1 hy => ?_))
  obtain ⟨rfl, rfl, hs⟩ := hy
  refine d_anil ⟨_, _, rfl, .int _ ?_, fun dd => ⟨rfl, dd, rfl, rfl⟩⟩
  have h2 : (i : Int).natAbs = i := Int.natAbs_natCast i
  rw [h2]
  exact Nat.lt_of_le_of_lt (Nat.log2_le_self i) (by omega)
theorem x_upO (hW : PostW K F0 (fun C d _ S' => XpO mg x S0 C d S') W) (e : S = S0) : dSX K F0 (fun _ σ H => W (.ref (clsA mg x)) none σ H) N Γ S := by
  subst e
  exact x_raise hW ⟨rfl, rfl, rfl⟩
end
/-- try, its parts kept apart -/
def tTry (K : PySem.W.Frag) (c : Value) (i : Nat) (ts : Addr → Value → Option Addr → TS) (tb : WX → TS) : TS := fun D σ H => tb (wAs K c i ts (fun _ _ _ _ => False) D) D σ H
theorem ps_try0 {X : Cx} (K : PySem.W.Frag) {x n : Str} {c : Value} {i : Nat} {body suite : List Stmt} {b₀ : Stmt} {np pos pos' : Pos} {tb : WX → TS} {ts : Addr → Value → Option Addr → TS} (hs : X.stack = X.env :: X.outer) (hf : X.env.frame = some X.env.locals) (hN : X.N.Nodup) (hi : X.N[i]? = some n) (hln : X.env.kindOf n = some .local) (hc : Names X x c)
    (hb : ∀ (W : WX) (pn : List (Addr × Obj)) (xe : Value → Shared → Prop), L2N.Takes (X.tr pn xe) W → PassesOwn (model X.prog X.w) X.A X.env xe → PSs (X.tr pn xe) body (tb W))
    (hsu : ∀ (a : Addr) (oe : Obj) (cls : Value) (d : Option Addr) (pn : List (Addr × Obj)), L2N.Zn cls d oe → (∃ vs, oe.data = .fields vs) → PSs (X.suite a ((a, oe) :: pn)) (b₀ :: suite) (ts a cls d)) (hK : X.K = K := by rfl) :
    PS X (.Try body [.ExceptHandler (some (.Name x np)) (some n) (b₀ :: suite) pos'] [] [] pos) (tTry K c i ts tb) := by
  subst hK
  exact L2N.ps_try_as hs hf hN hi hln hc takes0N hb hsu
theorem s_try0 {K : PySem.W.Frag} {S : Sto} {Γ : Env} {N : DEnds} {c : Value} {i : Nat} {tb : WX → TS} {ts : Addr → Value → Option Addr → TS} (Xp : Addr → Option Addr → Env → Sto → Prop)
    (hx : ∀ C d Γ' S', Xp C d Γ' S' → PySem.W.exmOne K (.ref C) c = some true ∧ ∀ a, dS K (ts a (.ref C) d) { nx := fun Γ2 S2 => N.nx (Γ2.set i none) S2, rt := N.rt } (Γ'.set i (some (.o (.ref a)))) S')
    (h : ∀ F0 W, PostW K F0 Xp W → dSX K F0 (tb W) N Γ S) : dS K (tTry K c i ts tb) N Γ S := s_try Xp hx h
end DL

/-! EXW: while an error is handled: the end of a walk over a list, unpacking, a comprehension over a list. -/
namespace EXW
open PySem PySem.W PySem.Calls PyProof.Rows HotX
section
variable {prog : Program} {w : World} {A : Around} {E : Value → Shared → Prop} {s : Shared}
/-- a StopIteration made and caught, the heap but one object kept -/
theorem stop_hot {it x1 : Addr} {h₀ h₁ : Heap} {g : Array GenState} {d : Drawn} {tk : Nat} {os : OsState} {Q : Option Value → Shared → Prop} {P : Fin → Shared → Prop} (hot : HotAt A x1 h₁) (hk : Heap.ExtBut it h₀ h₁)
    (hQ : ∀ h', Heap.ExtBut it h₀ h' → Q none ⟨h', g, d, tk, os⟩) :
    wpAny (model prog w) A.in1 Builtin.SmallTypes.stopIteration P (fun e s' => wpAny (model prog w) A (do if (← isInstance e (.type "StopIteration")) then pure none else throw e) Q E s') ⟨h₁, g, d, tk, os⟩ := by
  obtain ⟨hh, o1, vs1, h1, d1, c1⟩ := hot
  show wpAny _ _ (newExc (.type "StopIteration") [] >>= _) _ _ _
  refine wpAny_bind ?_
  simp only [newExc, newTuple]
  refine wpAny_bind (wpAny_newObj_type ?_ (by size_fits))
  refine wpAny_bind (m := firstArgMember _ _) (wpAny_of_eq (a := Value.none) (by first | rfl | (simp only [firstArgMember]; rfl)) ?_)
  refine wpAny_newObj_type ?_ (by size_fits)
  refine raiseNew_hot ⟨hh, o1, vs1, Heap.get?_push_of_some _ (Heap.get?_push_of_some _ h1), d1, c1⟩ (Nat.ne_of_lt (Heap.lt_size (Heap.get?_push_of_some _ h1))) (Heap.get?_push_size _ rfl) rfl (by first | (simp; done) | (simp; omega) | (simp only [Array.size_append]; simp; omega)) ?_
  refine wpAny_bind (wpAny_isInstance (T := "StopIteration") (b := true) ⟨_, Heap.get?_update_self _ (Heap.get?_push_size _ rfl) rfl, rfl⟩ isSubtype_stop ?_)
  refine wpAny_pure (hQ _ fun b o hb e => ?_)
  have e' := hk b o hb e
  rw [Heap.get?_update_other _ _ (Nat.ne_of_gt (Heap.lt_size (Heap.get?_push_of_some _ e')))]
  exact Heap.get?_push_of_some _ (Heap.get?_push_of_some _ e')
theorem ne_iter {it x1 : Addr} {h : Heap} {a b : Value} {o : Obj} (hot : HotAt A x1 h) (ho : h.get? it = some o) (hd : o.data = .fields #[a, b]) : x1 ≠ it := fun z => by
  obtain ⟨hh, o1, vs1, h1, d1, c1⟩ := hot
  subst z
  rw [h1] at ho
  cases ho
  rw [d1] at hd
  cases hd
  cases c1
theorem hot_ext {it x1 : Addr} {h h' : Heap} (hot : HotAt A x1 h) (hne : x1 ≠ it) (hk : Heap.ExtBut it h h') : HotAt A x1 h' := by
  obtain ⟨hh, o1, vs1, h1, d1, c1⟩ := hot
  exact ⟨hh, o1, vs1, hk _ _ hne h1, d1, c1⟩
theorem next_list_hot {it l x1 : Addr} {i : Nat} {items : Array Value} {Q : Option Value → Shared → Prop} (hot : HotAt A x1 s.heap)
    (hit : s.heap.IsListIter it l i) (hl : s.heap.IsList l items) (hx : items[i]? = none)
    (hQ : ∀ h', Heap.ExtBut it s.heap h' → Q none { s with heap := h' }) : wpAny (model prog w) A (pyNext (.ref it)) Q E s := by
  obtain ⟨o, ho, hc, hd⟩ := id hit
  obtain ⟨ol, hol, _, nl, hdl⟩ := hl
  have hne := ne_iter hot ho hd
  unfold pyNext
  refine wpAny_bind (wpAny_attempt (wpAny_callSpecial?_slot (name := Str.ofString "__next__") hit.typeIs slot_listiter_next
    (wpAny_call_entry slot_listiter_next hit.typeIs entry_listiter_next ?_ (args_listiter_next _))))
  show wpAny _ _ (field (.ref it) 0 >>= _) _ _ s
  refine wpAny_bind (wpAny_field ho hd (x := .ref l) rfl ?_)
  show wpAny _ _ (if (Value.ref l == Value.none) = true then _ else _) _ _ s
  rw [if_neg (show ¬ ((Value.ref l == Value.none) = true) from Bool.false_ne_true)]
  show wpAny _ _ (field (.ref it) 1 >>= _) _ _ s
  refine wpAny_bind (wpAny_field ho hd (x := .int i 0) rfl ?_)
  show wpAny _ _ (seqItems? (.ref l) >>= _) _ _ s
  refine wpAny_bind (wpAny_seqItems hol hdl ?_)
  simp only [Int.toNat_natCast, hx]
  refine wpAny_bind (wpAny_rule (wpAny_bind (wpAny_setField ho hd (by simp) ?_)))
  have hk : Heap.ExtBut it s.heap (s.heap.update it (Obj.mapFields fun x => x.setIfInBounds 0 Value.none)) := (Heap.SameBut.update ..).extBut
  exact stop_hot (hot_ext hot hne hk) hk hQ
theorem next_tup_hot {it t x1 : Addr} {i : Nat} {items : Array Value} {Q : Option Value → Shared → Prop} (hot : HotAt A x1 s.heap)
    (hit : IsTupIter s.heap it t i) (ht : IsTup s.heap t items) (hx : items[i]? = none)
    (hQ : ∀ h', Heap.ExtBut it s.heap h' → Q none { s with heap := h' }) : wpAny (model prog w) A (pyNext (.ref it)) Q E s := by
  obtain ⟨o, ho, hc, hd⟩ := id hit
  obtain ⟨ol, hol, _, nl, hdl⟩ := ht
  have hne := ne_iter hot ho hd
  unfold pyNext
  refine wpAny_bind (wpAny_attempt (wpAny_callSpecial?_slot (name := Str.ofString "__next__") hit.typeIs slot_tupleiter_next
    (wpAny_call_entry slot_tupleiter_next hit.typeIs entry_tupleiter_next ?_ (args_tupleiter_next _))))
  show wpAny _ _ (field (.ref it) 0 >>= _) _ _ s
  refine wpAny_bind (wpAny_field ho hd (x := .ref t) rfl ?_)
  show wpAny _ _ (if (Value.ref t == Value.none) = true then _ else _) _ _ s
  rw [if_neg (show ¬ ((Value.ref t == Value.none) = true) from Bool.false_ne_true)]
  show wpAny _ _ (field (.ref it) 1 >>= _) _ _ s
  refine wpAny_bind (wpAny_field ho hd (x := .int i 0) rfl ?_)
  show wpAny _ _ (seqItems? (.ref t) >>= _) _ _ s
  refine wpAny_bind (wpAny_seqItems hol hdl ?_)
  simp only [Int.toNat_natCast, hx]
  refine wpAny_bind (wpAny_rule (wpAny_bind (wpAny_setField ho hd (by simp) ?_)))
  have hk : Heap.ExtBut it s.heap (s.heap.update it (Obj.mapFields fun x => x.setIfInBounds 0 Value.none)) := (Heap.SameBut.update ..).extBut
  exact stop_hot (hot_ext hot hne hk) hk hQ
/-- a tuple taken apart -/
theorem unpack_hot {t x1 : Addr} {items : Array Value} {targets : List (Bool × (Value → Sem Unit))} {Q : Unit → Shared → Prop} (hot : HotAt A x1 s.heap) (ht : IsTup s.heap t items) (hn : targets.length = items.size) (hstar : targets.findIdx? (·.1) = none)
    (h : ∀ h', Heap.ExtBut s.heap.objs.size s.heap h' → wpAny (model prog w) A (assignInOrder (targets.map (·.2)) items.toList) Q E { s with heap := h' }) :
    wpAny (model prog w) A (unpack (.ref t) targets) Q E s := by
  have hlt : t ≠ s.heap.objs.size := by obtain ⟨o, ho, _⟩ := ht; exact Nat.ne_of_lt (Heap.lt_size ho)
  have hx1 : x1 ≠ s.heap.objs.size := by obtain ⟨_, o, _, ho, _⟩ := hot; exact Nat.ne_of_lt (Heap.lt_size ho)
  unfold unpack
  rw [hn, hstar]
  refine wpAny_bind (wpAny_holding ?_)
  unfold unpackItems
  refine wpAny_bind ?_
  unfold notIterableAtAll
  refine wpAny_bind (wpAny_specialOf ht.typeIs slot_tuple_iter.lookup ?_)
  refine wpAny_pure ?_
  simp only [Bool.false_eq_true, if_false]
  refine wpAny_bind (wpAny_holding (iter_tuple ht ?_))
  refine wpAny_bind (wpAny_holding (draw_tuple hlt items.size 0 _ _ ⟨_, Heap.get?_push_size _ rfl, rfl, rfl⟩ (ht.push _) (by omega) fun h₁ hit₁ hs₁ => ?_))
  have hall : List.take items.size (List.drop 0 items.toList) = items.toList := by
    rw [List.drop_zero]; exact List.take_of_length_le (by simp)
  rw [hall]
  rw [if_neg (by simp)]
  have ht₁ : IsTup h₁ t items := (ht.push _).extBut hs₁.extBut hlt
  have k₁ : Heap.ExtBut s.heap.objs.size s.heap h₁ := fun b o hb e => hs₁.extBut b o hb (Heap.get?_push_of_some _ e)
  refine wpAny_bind (wpAny_holding (next_tup_hot (hot_ext hot hx1 k₁) hit₁ ht₁ (by simp) fun h₂ he₂ => ?_))
  simp only [Option.isSome_none, Bool.false_eq_true, if_false]
  exact wpAny_pure (h h₂ fun b o hb e => he₂ b o hb (k₁ b o hb e))
theorem assign_hot {env : Env} {elts : List Expr} {x2} {pos : Pos} {t x1 : Addr} {items : Array Value} {Q : Unit → Shared → Prop} (hot : HotAt A x1 s.heap) (ht : IsTup s.heap t items)
    (hn : (assignEach elts env).length = items.size) (hstar : (assignEach elts env).findIdx? (·.1) = none)
    (h : ∀ h', Heap.ExtBut s.heap.objs.size s.heap h' → wpAny (model prog w) A (assignInOrder ((assignEach elts env).map (·.2)) items.toList) Q E { s with heap := h' }) :
    wpAny (model prog w) A (assign (.Tuple elts x2 pos) env (.ref t)) Q E s := by
  rw [assign_Tuple]
  exact wpAny_bind (wpAny_standAt (unpack_hot hot ht hn hstar h))
end
end EXW
namespace DL
open PySem PySem.Spec PyProof.Rows L2 HotX
/-- an error is handled, and its object stays as it is -/
def HotX (X : Cx) (x1 : Addr) : Prop := X.A.handled = some (.ref x1) ∧ ∀ pins σ H s, Inv X pins σ H s → H x1 = none ∧ x1 ∉ frs X.stack ∧ ∃ o vs, s.heap.get? x1 = some o ∧ o.data = .fields vs ∧ vs[2]? = some .none
theorem HotX.at_ {X : Cx} {x1 : Addr} {pins : List (Addr × Obj)} {σ : L2.St} {H : Hp} {s : Shared} (h : DL.HotX X x1) (I : Inv X pins σ H s) : HotAt X.A x1 s.heap := by
  obtain ⟨_, _, o, vs, e, d, c⟩ := h.2 _ _ _ _ I
  exact ⟨h.1, o, vs, e, d, c⟩
theorem hotX_pn {X : Cx} {x1 : Addr} {oe : Obj} {cls : Value} {d : Option Addr} (hp : (x1, oe) ∈ X.pn) (hh : X.A.handled = some (.ref x1)) (hz : L2N.Zn cls d oe) (hf : ∃ vs, oe.data = .fields vs) : DL.HotX X x1 := by
  refine ⟨hh, fun pins σ H s I => ?_⟩
  obtain ⟨a, b, b2, c, _⟩ := I.pin (x1, oe) (List.mem_append_left _ hp)
  obtain ⟨vs, e⟩ := hf
  exact ⟨b, fun hm => (List.mem_cons.mp (I.stkSub x1 hm)).elim b2 c, oe, vs, a, e, hz.2.2 vs e⟩
theorem hotX_blk {X : Cx} {x1 : Addr} {pins : List (Addr × Obj)} {σ : L2.St} {H3 : Hp} {s3 : Shared} {scope : Scope} {ce : PySem.Env} {fp : List Addr} (h : DL.HotX X x1) (I3 : Inv X pins σ H3 s3) (hn : x1 ∉ fp) : DL.HotX (X.blk s3 H3 scope ce fp) x1 := by
  obtain ⟨a, b, o, vs, e, d, c⟩ := h.2 _ _ _ _ I3
  refine ⟨h.1, fun pins' σ' H' s' I' => ?_⟩
  exact ⟨I'.base.free x1 o e a hn, b, o, vs, I'.base.keep x1 o e a b hn, d, c⟩
section
variable {X : Cx} {x1 : Addr} {pos : Pos}
theorem pg_tupW {es : List Expr} {k : Nat} {t : TGs} {n : Nat} (K : PySem.W.Frag) (hot : DL.HotX X x1) (h : PGs X es t) (hK : X.K = K := by rfl)
    (hn : (assignEach es X.env).length = n := by rfl) (hst : (assignEach es X.env).findIdx? (·.1) = none := by rfl) : PG X (.Tuple es k pos) (gTup K n t) := by
  subst hK
  refine ⟨fun pins s σ H v u Q I r hw => ?_⟩
  obtain ⟨a, xs, e1, hq, hl, hw⟩ := hw
  subst e1
  cases r
  obtain ⟨its, rv, ht, hz⟩ := I.tuple hq
  refine EXW.assign_hot (hot.at_ I) ht (by simp [hn, ← hl, rv.length]) hst fun h' hx => ?_
  have I1 : Inv X pins σ H { s with heap := h' } := I.kept (t' := s.toks) fun b o e => hx b o (Nat.ne_of_lt (Heap.lt_size e)) e
  exact h.run pins _ σ H xs _ Q I1 (by simpa using rv) hw
end
section
variable {X : Cx} {x1 : Addr}
/-- [elt for tg in l if ..] while an error is handled -/
theorem lcW_core {elt tg l : Expr} {ifs : List Expr} {scope : Scope} {own : List (Str × Nat)} {pos pos' : Pos} {tl : TE} {g : TG} {tt : TT} {te : TE} {pins : List (Addr × Obj)} {s : Shared} {σ : L2.St} {H : Hp} {Q : VK} {use : Option (Value → Sem Unit)} {Qf : Value → Shared → Prop} (hot : DL.HotX X x1) (hN : X.N.Nodup) (I : Inv X pins σ H s) (hl : PE X l tl) (ok : BlkOk X.N X.env.scope scope own)
    (hg : ∀ (s : Shared) (H : Hp) (C : Addr) (cl : List (Str × Addr)) (fp : List Addr), DL.HotX (X.blk s H scope (compEnvC scope cl C X.env) fp) x1 → PG (X.blk s H scope (compEnvC scope cl C X.env) fp) tg g)
    (ht : ∀ (s : Shared) (H : Hp) (C : Addr) (cl : List (Str × Addr)) (fp : List Addr), PTs (X.blk s H scope (compEnvC scope cl C X.env) fp) ifs tt)
    (he : ∀ (s : Shared) (H : Hp) (C : Addr) (cl : List (Str × Addr)) (fp : List Addr), PE (X.blk s H scope (compEnvC scope cl C X.env) fp) elt te) (hs : ∀ x, foldedSetIterable l X.env x = pure x)
    (h : tLc (iList X.K tl) g tt te (own.map (·.2)) σ H Q)
    (hRR : ∀ D C s' m H', Inv X pins σ H' s' → Q (.ref D) H' → s'.heap.Ns C m → FpOk X pins H' C → compPost (model X.prog X.w) X.A X.xe use Qf (.ref D) C (.ok .next) s') :
    wpAny (model X.prog X.w) X.A (comprehension (.ListComp elt [⟨tg, l, ifs, 0⟩] scope pos) scope X.env pos' (newList []) false (eval l X.env) use) Qf X.xe s := by
  have hfree : ∀ y ∈ scope.names, y.2 = .free → ∃ c, X.env.cells.lookup y.1 = some c := fun y hy e => (ok.free y hy e).elim (fun k => I.ok.has _ (.inl k)) fun k => I.ok.has _ (.inr k)
  refine wpAny_comprehension_free (use := use) rfl hs (closure_ok hfree) ok.kind (fun y hy e => by rw [ok.uniq y hy, e])
    (thn (hl.run pins s σ H _ I h) fun v s1 ⟨x, H2, I1, r1, q1⟩ => ?_)
  obtain ⟨a, e, ⟨xs, hq⟩, q⟩ := q1
  subst e
  cases r1
  obtain ⟨its, rv, p, hz⟩ := I1.list hq
  refine wpAny_pyIter_list p.isList ?_
  generalize hit : s1.heap.objs.size = it
  have hx1 : x1 ≠ it := by
    obtain ⟨_, _, o, _, ho, _⟩ := hot.2 _ _ _ _ I1
    rw [← hit]
    exact Nat.ne_of_lt (Heap.lt_size ho)
  generalize hs2 : ({ s1 with heap := s1.heap.push { cls := .type "list_iterator", data := .fields #[.ref a, .int 0 0] } } : Shared) = s2
  have I2 : Inv X pins σ H2 s2 := by
    rw [← hs2]
    exact I1.kept (t' := s1.toks) fun b o e => Heap.get?_push_of_some _ e
  have st2 : s2.heap.IsListIter it a 0 := by
    rw [← hs2, ← hit]
    exact ⟨_, Heap.get?_push_size _ rfl, rfl, rfl⟩
  have f2 : FpOk X pins H2 it := by
    rw [← hit]
    exact I1.fpOk (Nat.le_refl _) (I1.hok.fresh (Nat.le_refl _))
  have lt2 : it < s2.heap.objs.size := by
    obtain ⟨o, e, _⟩ := st2
    exact Heap.lt_size e
  refine wpAny_newObj_type (newEnv_comp ?_) (by show 0 ≤ sizeLine; decide)
  generalize hD : s2.heap.objs.size = D
  have hDn : H2 D = none := I2.hok.fresh (Nat.le_of_eq hD)
  obtain ⟨W, ⟨m0, w0⟩, turn⟩ := q D hDn
  generalize hs3 : ({ s2 with heap := s2.heap.push { cls := .type "list", data := .seq ([] : List Value).toArray } } : Shared) = s3
  have I3 : Inv X pins σ (upd H2 D (.lst [])) s3 := by
    rw [← hs3]
    refine I2.laid (t' := s2.toks) (fun b o e => Heap.get?_push_of_some _ e) (Nat.le_of_eq hD) ⟨Nat.zero_le _, [], 0, .nil, ?_⟩
    rw [← hD]
    exact Heap.get?_push_size _ rfl
  have h3 : s3.heap = s2.heap.push { cls := .type "list", data := .seq ([] : List Value).toArray } := by rw [← hs3]
  have f3 : ∀ b ∈ [it], FpOk X pins (upd H2 D (.lst [])) b ∧ b < s3.heap.objs.size := fun b hb => by
    obtain rfl : b = it := by simpa using hb
    refine ⟨⟨?_, f2.2⟩, by rw [h3, Heap.size_push]; exact Nat.lt_succ_of_lt lt2⟩
    rw [upd_ne (by rw [← hD]; exact Nat.ne_of_lt lt2)]
    exact f2.1
  have st3 : s3.heap.IsListIter it a 0 := st2.at fun o e => by rw [h3]; exact Heap.get?_push_of_some _ e
  have I4 := block_start I3 ok hN f3
  have hb3 := fun ce => hotX_blk (scope := scope) (ce := ce) hot I3 (fp := [it]) (by simpa using hx1)
  have pg := hg s3 (upd H2 D (.lst [])) s3.heap.objs.size (cellsFrom (s3.heap.objs.size + 1) scope.names (cloFrom X.env.cells scope.names [])) [it] (hb3 _)
  have pt := ht s3 (upd H2 D (.lst [])) s3.heap.objs.size (cellsFrom (s3.heap.objs.size + 1) scope.names (cloFrom X.env.cells scope.names [])) [it]
  have pe := he s3 (upd H2 D (.lst [])) s3.heap.objs.size (cellsFrom (s3.heap.objs.size + 1) scope.names (cloFrom X.env.cells scope.names [])) [it]
  have hotB := hb3 (compEnvC scope (cellsFrom (s3.heap.objs.size + 1) scope.names (cloFrom X.env.cells scope.names [])) s3.heap.objs.size X.env)
  show codeAny _ _ (.compStart (.ListComp elt [⟨tg, l, ifs, 0⟩] scope pos) 0 (.ref it) (.ref D) (compEnvC scope (cellsFrom (s3.heap.objs.size + 1) scope.names (cloFrom X.env.cells scope.names [])) s3.heap.objs.size X.env)) _ { s3 with heap := pushCells (s3.heap.push { cls := .type "dict", data := .dict #[] }) scope.names }
  have nit : (upd H2 D (.lst [])) it = none := (f3 it (by simp)).1.1
  generalize hce : compEnvC scope (cellsFrom (s3.heap.objs.size + 1) scope.names (cloFrom X.env.cells scope.names [])) s3.heap.objs.size X.env = ce at I4 pg pt pe hotB ⊢
  have cL : ce.locals = s3.heap.objs.size := by subst hce; rfl
  generalize hH3 : upd H2 D (.lst []) = H3 at I3 I4 pg pt pe hotB w0 nit f3
  generalize hs4 : ({ s3 with heap := pushCells (s3.heap.push { cls := .type "dict", data := .dict #[] }) scope.names } : Shared) = s4 at I4 ⊢
  have st4 : s4.heap.IsListIter it a 0 := st3.at fun o e => by rw [← hs4]; exact pushCells_keeps _ _ _ _ (Heap.get?_push_of_some _ e)
  have stat : ∀ {σ' : L2.St} {H' : Hp} {s' : Shared} {ps : List (Addr × Obj)}, ps = [] → Inv (X.blk s3 H3 scope ce [it]) ps σ' H' s' → H' it = none → FpOk (X.blk s3 H3 scope ce [it]) [] H' it := fun {σ' H' s' ps} ep I' hn =>
    ⟨hn, (I'.ok.exf it (by simp)).1, I'.ok.exfs it (by simp), .inl (by simp), fun x c e => (I'.ok.exf it (by simp)).2 x c e, fun p hp => absurd (show p ∈ ([] : List (Addr × Obj)) ++ [] from hp) (by simp)⟩
  suffices loop : codeAny (model X.prog X.w) X.A (.compLoop (.ListComp elt [⟨tg, l, ifs, 0⟩] scope pos) 0 (.ref it) (.ref D) ce) (compPost (model X.prog X.w) X.A X.xe use Qf (.ref D) s3.heap.objs.size) s4 from
    codeAny_compStart_list loop (wpAny_pyIter_listiter st4 loop)
  refine compLoop_any (fun n s' => ∃ i H', Inv (X.blk s3 H3 scope ce [it]) [] (wipe σ (own.map (·.2))) H' s' ∧ s'.heap.IsListIter it a i ∧ H' it = none ∧ W i n H') ?_ m0 ⟨0, H3, I4, st4, nit, w0⟩
  rintro n s5 ⟨i, H5, I5, st5, n5, w5⟩
  have fi := stat rfl I5 n5
  obtain ⟨f0, g1, g2, g3, g4, g5⟩ := id fi
  rcases turn i n H5 w5 with ⟨⟨ys, hy, hlen⟩, qq⟩ | ⟨⟨ys, y, hy, hyi⟩, Nx, hNx, step⟩
  · obtain ⟨its5, rv5, p5, _⟩ := I5.list hy
    have hl5 := rv5.length
    refine EXW.next_list_hot (hotB.at_ I5) st5 p5.isList (by simp; omega) fun h' eb => ?_
    have I6 : Inv (X.blk s3 H3 scope ce [it]) [] (wipe σ (own.map (·.2))) H5 { s5 with heap := h' } := I5.turned (t' := s5.toks) (fun b o hb e => eb b o hb e) f0 g1 g3 g4 g5
    have I7 : Inv X pins σ H5 { s5 with heap := h' } := I3.call' (ch := [it]) I6.os I6.base I6.hok I6.bare fun b hb => ⟨(f3 b hb).1.2.2.2.1, (f3 b hb).1.2.1, (f3 b hb).1.2.2.2.2.1, (f3 b hb).1.2.2.2.2.2⟩
    have nC : H5 s3.heap.objs.size = none := by
      have z : H5 ce.locals = none := I6.free
      rw [cL] at z
      exact z
    obtain ⟨m, hn, _⟩ := I6.loc
    have hn : Heap.Ns h' ce.locals m := hn
    rw [cL] at hn
    exact hRR D s3.heap.objs.size { s5 with heap := h' } m H5 I7 qq hn (I3.fpOk (Nat.le_refl _) nC)
  · obtain ⟨its5, rv5, p5, _⟩ := I5.list hy
    obtain ⟨u, hu, ru⟩ := rv5.get hyi
    refine wpAny_pyNext_list_item st5 p5.isList (x := u) (by simpa using hu) fun h' st' sb => ?_
    have I6 : Inv (X.blk s3 H3 scope ce [it]) [] (wipe σ (own.map (·.2))) H5 { s5 with heap := h' } := I5.turned (t' := s5.toks) (fun b o hb e => (sb.2 b hb).trans e) f0 g1 g3 g4 g5
    obtain ⟨o6, e6, k6, d6⟩ := id st'
    refine go_of (s := { s5 with heap := h' }) e6 k6 d6 (by decide) ?_
    have obj : ∀ b ∈ [it], ∃ o, Heap.get? h' b = some o ∧ ∀ v, o.data ≠ .cell v := fun b hb => by
      obtain rfl : b = it := by simpa using hb
      exact ⟨o6, e6, fun v z => by rw [d6] at z; cases z⟩
    have I6' := I6.pinned (fp := [it]) (fun b hb => by obtain rfl : b = it := (by simpa using hb); exact stat rfl I6 n5) obj
    have hyld : (Itl X.K a).yld i H5 y H5 := ⟨rfl, fun zs hz => by rw [I6.list_inj hz hy]; exact hyi⟩
    refine thnF (pg.run _ { s5 with heap := h' } _ H5 y u _ I6' ru (step y H5 hyld)) fun _ s8 ⟨σ8, H8, I8, hw8, q8⟩ => ?_
    refine thnF (pt.run _ s8 σ8 H8 _ I8 q8) fun b s9 ⟨H9, I9, q9⟩ => ?_
    have fin : ∀ {s' : Shared} {H' : Hp}, Inv (X.blk s3 H3 scope ce [it]) ([] ++ pinsAt [it] h') σ8 H' s' → Nx H' → ∃ m, m < n ∧ ∃ i H', Inv (X.blk s3 H3 scope ce [it]) [] (wipe σ (own.map (·.2))) H' s' ∧ s'.heap.IsListIter it a i ∧ H' it = none ∧ W i m H' := fun {s' H'} I' nx => by
      obtain ⟨m', hm, w'⟩ := hNx H' nx
      have pin' := I'.pin (it, o6) (List.mem_append_right _ (List.mem_append_right _ (mem_pinsAt (by simp) e6)))
      have hl : (wipe σ (own.map (·.2))).length = σ8.length := by rw [← hw8, wipe_length]
      refine ⟨m', hm, i + 1, H', (I'.unpinned (pins := [])).weak hl (fun j v e => ?_), st'.at fun o e => ?_, pin'.2.1, w'⟩
      · rw [← hw8] at e
        exact (wipe_some e).1
      · rw [e6] at e
        cases e
        exact pin'.1
    cases b with
    | false =>
      simp only [Bool.false_eq_true, if_false] at q9 ⊢
      exact fin I9 q9
    | true =>
      simp only [if_true] at q9 ⊢
      refine thnF (pe.run _ s9 σ8 H9 _ I9 q9) fun z s10 ⟨yv, H10, I10, r10, acc, hD10, hz10, nx⟩ => ?_
      exact app_ok (X := X.blk s3 H3 scope ce [it]) I10 hD10 hz10 r10 fun s11 I11 => fin I11 nx
theorem pe_lcW {elt tg l : Expr} {ifs : List Expr} {scope : Scope} {own : List (Str × Nat)} {pos : Pos} {tl : TE} {g : TG} {tt : TT} {te : TE} (K : PySem.W.Frag) (hot : DL.HotX X x1) (hN : X.N.Nodup) (hl : PE X l tl) (ok : BlkOk X.N X.env.scope scope own)
    (hg : ∀ (s : Shared) (H : Hp) (C : Addr) (cl : List (Str × Addr)) (fp : List Addr), DL.HotX (X.blk s H scope (compEnvC scope cl C X.env) fp) x1 → PG (X.blk s H scope (compEnvC scope cl C X.env) fp) tg g)
    (ht : ∀ (s : Shared) (H : Hp) (C : Addr) (cl : List (Str × Addr)) (fp : List Addr), PTs (X.blk s H scope (compEnvC scope cl C X.env) fp) ifs tt)
    (he : ∀ (s : Shared) (H : Hp) (C : Addr) (cl : List (Str × Addr)) (fp : List Addr), PE (X.blk s H scope (compEnvC scope cl C X.env) fp) elt te) (hK : X.K = K := by rfl) (hs : ∀ x, foldedSetIterable l X.env x = pure x := by intro _; rfl) :
    PE X (.ListComp elt [⟨tg, l, ifs, 0⟩] scope pos) (tLc (iList K tl) g tt te (own.map (·.2))) := by
  subst hK
  refine ⟨fun pins s σ H Q I h => ?_⟩
  rw [eval_ListComp]
  refine lcW_core hot hN I hl ok hg ht he hs h fun D C s' m H' I' q hn f => ⟨m, hn, fun h'' sb => ?_⟩
  obtain ⟨f0, f1, f2, f3, f4, f5⟩ := f
  exact ⟨.ref D, H', I'.turned (t' := s'.toks) (fun b o hb e => (sb.2 b hb).trans e) f0 f1 f3 f4 f5, rfl, q⟩
/-- the same, its answer stored -/
theorem ps_setLcW {i : Nat} {y : Str} {py : Pos} {elt tg l : Expr} {ifs : List Expr} {scope : Scope} {own : List (Str × Nat)} {pos spos : Pos} {tl : TE} {g : TG} {tt : TT} {te : TE} (K : PySem.W.Frag) (hot : DL.HotX X x1) (hN : X.N.Nodup) (hy : X.N[i]? = some y) (hyl : X.env.scope.names.lookup y = some .local)
    (hsw : swapsWith (.ListComp elt [⟨tg, l, ifs, 0⟩] scope pos) (some (.Name y py)) spos.line X.env = pure true) (hl : PE X l tl) (ok : BlkOk X.N X.env.scope scope own)
    (hg : ∀ (s : Shared) (H : Hp) (C : Addr) (cl : List (Str × Addr)) (fp : List Addr), DL.HotX (X.blk s H scope (compEnvC scope cl C X.env) fp) x1 → PG (X.blk s H scope (compEnvC scope cl C X.env) fp) tg g)
    (ht : ∀ (s : Shared) (H : Hp) (C : Addr) (cl : List (Str × Addr)) (fp : List Addr), PTs (X.blk s H scope (compEnvC scope cl C X.env) fp) ifs tt)
    (he : ∀ (s : Shared) (H : Hp) (C : Addr) (cl : List (Str × Addr)) (fp : List Addr), PE (X.blk s H scope (compEnvC scope cl C X.env) fp) elt te) (hK : X.K = K := by rfl) (hs : ∀ x, foldedSetIterable l X.env x = pure x := by intro _; rfl) :
    PS X (.Assign [.Name y py] (.ListComp elt [⟨tg, l, ifs, 0⟩] scope pos) spos) (tAsg (tLc (iList K tl) g tt te (own.map (·.2))) (gName i)) := by
  subst hK
  refine ⟨fun pins s σ H D I h => ?_⟩
  rw [exec_Assign_Name_used _ _ _ _ hsw]
  refine wpAny_bind (wpAny_standAt (wpAny_bind ?_))
  show wpAny _ X.A (do let _ ← comprehension (.ListComp elt [⟨tg, l, ifs, 0⟩] scope pos) scope X.env (firstIterPos [⟨tg, l, ifs, 0⟩] pos) (newList []) false (eval l X.env) (some (assign (.Name y py) X.env))) _ _ s
  have h : tLc (iList X.K tl) g tt te (own.map (·.2)) σ H (fun x H1 => gName i x σ H1 D.nx) := h
  refine wpAny_bind (thn (lcW_core (Qf := fun _ s' => SP X pins D .next s') hot hN I hl ok hg ht he hs h fun L C s' m H' I' q hn f => ?_) fun _ s' hq => wpAny_pure (wpAny_pure hq))
  show wpAny _ _ (assign (.Name y py) X.env (.ref L)) _ _ _
  refine wpAny_assign_Name (store_ok2 (v := V.ref L) I' hN hy (.inl hyl) rfl (fun s2 I2 ⟨a, sb, ha⟩ => ?_) (.inr hyl))
  obtain ⟨f0, f1, f2, f3, f4, f5⟩ := f
  have haC : C ≠ a := by
    rcases ha with z | z
    · rw [z]; exact f1
    · exact fun e => f4 y a z e.symm
  refine ⟨m, hn.sameBut sb haC, fun h3 sb3 => ?_⟩
  exact ⟨_, H', I2.turned (t' := s2.toks) (fun b o hb e => (sb3.2 b hb).trans e) f0 f1 f3 f4 f5, q⟩
end
end DL

namespace Law
open PySem PySem.Spec PyProof.Rows L2 DL
def topS (i : Nat) : Stmt := PySem.Challenge.pw_goesnext_k14_errors_of_rules.main.body.getD i (.Pass ⟨0, 0, 0, 0⟩)
abbrev s_is_integer : Stmt := topS 17
abbrev s_check_k : Stmt := topS 19
abbrev s_first_in : Stmt := topS 20
abbrev s_last_used : Stmt := topS 21
abbrev s_climbing : Stmt := topS 22
abbrev s_raised : Stmt := topS 23
abbrev s_are_targets : Stmt := topS 24
abbrev s_place_raised : Stmt := topS 25
abbrev s_tree : Stmt := topS 26
abbrev s_place_in_tree : Stmt := topS 27
abbrev s_law_source : Stmt := topS 29
abbrev s_law_draw : Stmt := topS 30
abbrev s_law_word_of : Stmt := topS 31
abbrev s_law_told : Stmt := topS 32
abbrev s_law : Stmt := topS 33
abbrev RSl : List Str := ["InvalidNumber"]
abbrev TSl : List Str := ["InvalidNumber", "InvalidPermutation", "InvalidPermutations", "OtherSize", "InvalidRow", "InvalidRule", "TooMany", "InvalidStream", "InvalidWide", "InvalidTable", "InvalidRules", "InvalidRows", "InvalidOutcomes", "InvalidBlock"]
abbrev FSl : List (Str × Str) := []
theorem sc_is_integer : FnScope ["value"] ["value"] (defScope s_is_integer) := ⟨rfl, rfl, rfl, by decide +kernel, rfl, by decide +kernel, by decide +kernel⟩
theorem sc_check_k : FnScope ["k"] ["k"] (defScope s_check_k) := ⟨rfl, rfl, rfl, by decide +kernel, rfl, by decide +kernel, by decide +kernel⟩
theorem sc_first_in : FnScope ["k"] ["k"] (defScope s_first_in) := ⟨rfl, rfl, rfl, by decide +kernel, rfl, by decide +kernel, by decide +kernel⟩
theorem sc_last_used : FnScope ["k", "_"] ["k"] (defScope s_last_used) := ⟨rfl, rfl, rfl, by decide +kernel, rfl, by decide +kernel, by decide +kernel⟩
theorem sc_climbing : FnScope ["k", "place"] ["k"] (defScope s_climbing) := ⟨rfl, rfl, rfl, by decide +kernel, rfl, by decide +kernel, by decide +kernel⟩
theorem sc_raised : FnScope ["targets", "k", "i", "target", "j"] ["targets"] (defScope s_raised) := ⟨rfl, rfl, rfl, by decide +kernel, rfl, by decide +kernel, by decide +kernel⟩
theorem sc_are_targets : FnScope ["value", "place", "item"] ["value"] (defScope s_are_targets) := ⟨rfl, rfl, rfl, by decide +kernel, rfl, by decide +kernel, by decide +kernel⟩
theorem sc_place_raised : FnScope ["place", "hit", "target"] ["place", "hit", "target"] (defScope s_place_raised) := ⟨rfl, rfl, rfl, by decide +kernel, rfl, by decide +kernel, by decide +kernel⟩
theorem sc_tree : FnScope ["k", "i", "j"] ["k"] (defScope s_tree) := ⟨rfl, rfl, rfl, by decide +kernel, rfl, by decide +kernel, by decide +kernel⟩
theorem sc_place_in_tree : FnScope ["place", "hit", "k", "unlike", "lowest"] ["place", "hit", "k"] (defScope s_place_in_tree) := ⟨rfl, rfl, rfl, by decide +kernel, rfl, by decide +kernel, by decide +kernel⟩
theorem sc_law_source : FnScope ["_law_cell", "_law_nth"] ["_law_cell", "_law_nth"] (defScope s_law_source) := ⟨rfl, rfl, rfl, by decide +kernel, rfl, by decide +kernel, by decide +kernel⟩
theorem sc_law_draw : FnScope ["_law_source_here", "_law_many", "_law_digit", "_law_mixed"] ["_law_source_here", "_law_many"] (defScope s_law_draw) := ⟨rfl, rfl, rfl, by decide +kernel, rfl, by decide +kernel, by decide +kernel⟩
theorem sc_law_word_of : FnScope ["_law_e", "_law_some", "_law_odd", "_law_found", "_law_name", "_law_is_one"] ["_law_e"] (defScope s_law_word_of) := ⟨rfl, rfl, rfl, by decide +kernel, rfl, by decide +kernel, by decide +kernel⟩
theorem sc_law_told : FnScope ["_law_way", "_law_given", "_law_e"] ["_law_way", "_law_given"] (defScope s_law_told) := ⟨rfl, rfl, rfl, by decide +kernel, rfl, by decide +kernel, by decide +kernel⟩
theorem sc_law : FnScope ["_law_script", "_law_odd", "_law_bad", "_law_size", "_law_due", "_law_nth", "_law_source_here", "_law_spot", "_law_goal", "_law_turn", "_law_bads", "_law_wrong", "_law_kept", "_law_way"] ["_law_script"] (defScope s_law) := ⟨rfl, rfl, rfl, by decide +kernel, rfl, by decide +kernel, by decide +kernel⟩
local macro_rules | `(tactic| fail "sub") => `(tactic| first | with_reducible exact List.Sublist.refl _ | ((with_reducible refine List.Sublist.cons_cons _ ?_); fail "sub") | ((with_reducible refine List.Sublist.cons _ ?_); fail "sub") | ((with_reducible refine sub_appR ?_); fail "sub"))
local macro_rules | `(tactic| fail "mem") => `(tactic| first | with_reducible exact mem_mid | with_reducible exact List.mem_cons_self | ((with_reducible apply List.mem_cons_of_mem); fail "mem") | assumption)
local macro_rules | `(tactic| fail "upd") => `(tactic| first | with_reducible exact upd_mid | with_reducible exact Upd.here | ((with_reducible apply Upd.there); fail "upd"))
local macro_rules | `(tactic| fail "lst") => `(tactic| first | with_reducible exact Lst.d _ | ((with_reducible apply Lst.r); fail "mem") | assumption | ((with_reducible apply Lst.tl); fail "lst"))
local macro_rules | `(tactic| fail "sees") => `(tactic| first | with_reducible exact Sees.d _ | assumption | ((with_reducible apply Sees.tl); fail "sees"))
local macro_rules | `(tactic| fail "dx") => `(tactic| first
  | with_reducible refine s_seq ?_ | with_reducible refine s_ret ?_ | with_reducible refine s_if ?_ | with_reducible refine s_asg ?_ | with_reducible refine s_drop ?_ | with_reducible refine s_par ?_ | with_reducible refine s_for ?_
  | with_reducible refine g_name ?_
  | with_reducible refine d_var rfl ?_
  | with_reducible refine d_int ?_ | with_reducible refine d_bl ?_ | with_reducible refine d_str ?_ | with_reducible refine d_non ?_ | with_reducible refine d_oth ?_
  | with_reducible refine d_op ?_ | with_reducible refine d_un ?_ | with_reducible refine d_cb ?_ | with_reducible refine d_acons ?_ | with_reducible refine d_anil ?_
  | with_reducible refine d_andV ?_ | with_reducible refine d_orV ?_ | with_reducible refine d_notV ?_ | with_reducible refine d_ifE ?_ | with_reducible refine d_chain ?_
  | with_reducible refine d_test ?_ | with_reducible refine d_tB ?_ | with_reducible refine d_tand ?_ | with_reducible refine d_tor ?_ | with_reducible refine d_tnot ?_ | with_reducible refine d_tyes ?_
  | with_reducible refine d_call ?_ | with_reducible refine d_callK ?_ | with_reducible refine d_lst ?_ | with_reducible refine d_lstM ?_ | with_reducible refine d_listRgM ?_ | with_reducible refine d_tup ?_ | with_reducible refine d_bm ?_ | with_reducible refine d_bm0 ?_ | with_reducible refine d_listRg ?_ | with_reducible refine d_tupRg ?_ | with_reducible refine rg_1 ?_ | with_reducible refine rg_2 ?_ | with_reducible refine d_slice ?_ | with_reducible refine o_some ?_ | with_reducible refine o_none ?_
  | with_reducible refine r_i ?_ | with_reducible refine r_b ?_ | with_reducible refine r_u ?_ | with_reducible refine r_abs ?_ | with_reducible refine r_max2 ?_ | with_reducible refine r_min2 ?_ | with_reducible refine r_int1 ?_
  | with_reducible refine r_mod (by first | decide | assumption | omega) ?_
  | with_reducible refine r_mulL ⟨by decide, by decide⟩ ?_ | with_reducible refine r_mulR ⟨by decide, by decide⟩ ?_
  | with_reducible refine r_pow (by decide) (by decide) (by decide) ?_
  | with_reducible refine r_div (by first | decide | assumption) (by first | decide | assumption) ?_
  | ((with_reducible show dR2 _ (rIxL _) _ _ _ _); refine r_ix (by fail "lst") (by first | rfl | assumption) ?_)
  | ((with_reducible show dRL _ (DL.rLen _) _ _ _); refine r_len (by fail "lst") ?_)
  | ((with_reducible refine g_sub ?_); (repeat fail "dx"); (refine ⟨_, _, _, _, _, rfl, rfl, dset_mk (by fail "upd") (by first | rfl | assumption) ?_⟩))
  | with_reducible refine i_range1 ?_ | with_reducible refine i_range2 ?_ | with_reducible refine i_list ?_ | with_reducible refine i_tup ?_ | with_reducible refine i_enum ?_ | with_reducible refine i_zip ?_
  | with_reducible refine ⟨_, rfl, ?_⟩)
local macro_rules | `(tactic| fail "lit") => `(tactic| first | exact lit_int | exact lit_bl | exact lit_str | exact lit_non | exact lit_dnew | exact lit_disp | exact lita_nil | ((refine lita_cons ?_ ?_) <;> fail "lit") | ((refine lit_lst ?_ (by decide)); fail "lit") | ((refine lit_tup ?_ (by decide)); fail "lit") | exact lit_un)
local macro_rules | `(tactic| fail "lg") => `(tactic| first | exact lg_int | exact lg_bl | exact lg_str | exact lg_non | exact lg_dnew | exact lg_var rfl | exact lga_nil | ((refine lga_cons ?_ ?_) <;> fail "lg") | ((refine lg_lst ?_ (Nat.le_of_ble_eq_true rfl)); fail "lg") | ((refine lg_tup ?_ (Nat.le_of_ble_eq_true rfl)); fail "lg") | exact lg_un | ((refine lg_disp ?_); fail "lg") | ((refine lg_tupOf ?_); fail "lg") | exact lg_ix0 (lg_var rfl) | ((refine lg_strI ?_ (by assumption)); fail "lg") | ((refine lg_cat ?_ ?_ (by simp only [List.length_map, List.length_cons, List.length_nil]; omega)) <;> fail "lg") | ((refine lg_add ?_ ?_) <;> fail "lg") | ((refine lg_pow ?_ ?_ (by decide) (by decide) (by decide)) <;> fail "lg") | ((refine lg_rep ?_ ?_ (Nat.le_of_ble_eq_true rfl) (by omega)) <;> fail "lg"))
local macro_rules | `(tactic| fail "env") => `(tactic| first | (dsimp only [List.set, wipeA, List.map]; exact rfl) | exact rfl)
local macro_rules | `(tactic| fail "vstart") => `(tactic| (refine s_env ?g ?e ?h; (case e => (simp only [startA, List.map, List.length, Nat.reduceAdd, Nat.reduceSub, List.replicate, List.cons_append, List.nil_append]; try exact rfl))))
local macro_rules | `(tactic| fail "vx") => `(tactic| first
  | with_reducible refine s_seq ?_ | with_reducible refine s_ret ?_ | with_reducible refine s_if ?_ | with_reducible refine s_asg ?_ | with_reducible refine s_drop ?_ | with_reducible refine s_for ?_
  | ((with_reducible refine s_parE ?_); (repeat fail "vx"); (refine ⟨_, _, ?G, rfl, ?e, ?h⟩); (case e => fail "env"))
  | ((with_reducible refine g_nameE (Γ' := ?G) ?e ?h); (case e => fail "env"))
  | with_reducible refine d_var rfl ?_
  | with_reducible refine d_int ?_ | with_reducible refine d_bl ?_ | with_reducible refine d_str ?_ | with_reducible refine d_non ?_ | with_reducible refine d_oth ?_
  | ((with_reducible refine v_rep ?_); (repeat fail "vx"); (fail "mk"))
  | with_reducible refine v_isLT ?_ | with_reducible refine d_op ?_ | with_reducible refine d_un ?_ | with_reducible refine d_cb ?_ | with_reducible refine d_acons ?_ | with_reducible refine d_star ?_ | with_reducible refine ⟨_, Lst.d _, ?_⟩ | with_reducible refine d_anil ?_
  | with_reducible refine d_andV ?_ | with_reducible refine d_orV ?_ | with_reducible refine d_notV ?_ | with_reducible refine d_chain ?_
  | with_reducible refine d_test ?_ | with_reducible refine d_tB ?_ | with_reducible refine d_tand ?_ | with_reducible refine d_tor ?_ | with_reducible refine d_tnot ?_ | with_reducible refine d_tyes ?_ | with_reducible refine d_tru ?_ | with_reducible refine d_dgetV ?_ | with_reducible refine d_dinV ?_ | with_reducible refine d_dnotinV ?_ | with_reducible refine d_dnewV ?_
  | with_reducible refine d_call ?_ | with_reducible refine d_callK ?_
  | ((with_reducible refine v_lst ?_); (repeat fail "vx"); (fail "mk")) | ((with_reducible refine v_tup ?_); (repeat fail "vx"); (fail "mk"))
  | with_reducible refine v_nilM ?_ | with_reducible refine v_oneM ?_ | with_reducible refine fun (_ : Addr) => ?_ | ((refine ⟨(⟨rfl, ?X, ?m⟩ : Tys _ _ (.r _)), ?_⟩); (case m => fail "mem")) | ((with_reducible refine ⟨(?t : Tys _ _ (.d _)), ?_⟩); (case t => exact rfl)) | with_reducible refine d_lstM ?_ | with_reducible refine v_listRgM ?_ | with_reducible refine d_listRgM ?_
  | with_reducible refine v_listRg1 ?_ | with_reducible refine v_listRg2 ?_
  | with_reducible refine d_bm ?_ | with_reducible refine d_bm0 ?_ | with_reducible refine d_tupRg ?_ | with_reducible refine rg_1 ?_ | with_reducible refine rg_2 ?_ | with_reducible refine d_slice ?_ | with_reducible refine o_some ?_ | with_reducible refine o_none ?_
  | with_reducible refine r_i ?_ | with_reducible refine r_b ?_ | with_reducible refine r_u ?_ | with_reducible refine r_abs ?_ | with_reducible refine r_max2 ?_ | with_reducible refine r_min2 ?_ | with_reducible refine r_int1 ?_ | with_reducible refine r_int1b ?_
  | with_reducible refine r_mod (by first | decide | assumption | omega) ?_
  | with_reducible refine r_mulL ⟨by decide, by decide⟩ ?_ | with_reducible refine r_mulR ⟨by decide, by decide⟩ ?_
  | with_reducible refine r_pow (by decide) (by decide) (by decide) ?_
  | with_reducible refine r_div (by first | decide | assumption | omega) (by first | decide | assumption | omega) ?_
  | with_reducible refine v_list ?_ | with_reducible refine v_listI ?_ | with_reducible refine v_listT ?_ | with_reducible refine v_tuple ?_ | with_reducible refine v_listIM ?_
  | with_reducible refine v_lenI ?_ | with_reducible refine v_lenR ?_ | with_reducible refine v_lenB ?_ | with_reducible refine v_len ?_ | ((with_reducible refine v_lenCI (ns := ?X) ?m ?_); (case m => fail "mem")) | ((with_reducible refine v_lenC (xs := ?X) ?m ?_); (case m => fail "mem"))
  | with_reducible refine v_ixN (by first | assumption | omega) ?_ | with_reducible refine v_ixI (by first | assumption | omega) (by first | assumption | omega) ?_ | with_reducible refine v_ixRN (by first | assumption | omega) ?_ | with_reducible refine v_ixR (by first | assumption | omega) (by first | assumption | omega) ?_
  | ((with_reducible refine v_ixT (d := ?D) ?a ?b ?_); (case a => decide); (case b => exact rfl)) | ((with_reducible refine v_ix (d := ?D) ?a ?b ?_); (case a => decide); (case b => exact rfl)) | with_reducible refine v_last ?_
  | with_reducible refine v_slToI ?_ | with_reducible refine v_slFromI ?_ | with_reducible refine v_slMidI ?_ | with_reducible refine v_slToR ?_ | with_reducible refine v_slFromR ?_ | with_reducible refine v_slToZ (by omega) ?_ | with_reducible refine v_slFromZ (by omega) ?_ | with_reducible refine v_slMidZ (by omega) (by omega) ?_ | with_reducible refine v_slToRZ (by omega) ?_ | with_reducible refine v_slFromRZ (by omega) ?_
  | with_reducible refine v_eqI ?_ | with_reducible refine v_neI ?_ | with_reducible refine v_eqL ?_ | with_reducible refine v_neL ?_ | with_reducible refine v_eqR ?_ | with_reducible refine v_neR ?_ | with_reducible refine v_eqNilD ?_ | with_reducible refine v_neNilD ?_ | with_reducible refine v_eqB ?_ | with_reducible refine v_neB ?_
  | with_reducible refine v_inI ?_ | with_reducible refine v_notInI ?_ | with_reducible refine v_inR ?_ | with_reducible refine v_notInR ?_ | with_reducible refine v_isL ?_ | with_reducible refine v_isTu ?_ | with_reducible refine v_isBo ?_ | with_reducible refine v_isIn ?_ | with_reducible refine v_isLT ?_ | with_reducible refine r_isN (.d _) ?_ | with_reducible refine r_notN (.d _) ?_ | with_reducible refine v_index (by assumption) ?_ | with_reducible refine v_sumI ?_
  | ((with_reducible refine v_catI ?_ ?_); (first | (simp only [List.length_append, List.length_cons, List.length_nil, List.length_take, List.length_drop]; omega)))
  | ((with_reducible refine g_sub ?_); (repeat fail "vx"); (refine ⟨_, _, _, _, _, rfl, rfl, dset_mk (by fail "upd") (by first | rfl | assumption) ?_⟩))
  | ((with_reducible refine g_tupD2 ?k ?_); (case k => rfl)) | ((with_reducible refine g_tupD3 ?k ?_); (case k => rfl)) | ((with_reducible refine g_tupD4 ?k ?_); (case k => rfl)) | ((with_reducible refine gs_cons ?_)) | ((with_reducible refine gs_nil ?_)) | ((with_reducible refine g_pair ?k ?_); (case k => rfl))
  | with_reducible refine i_range1 ?_ | with_reducible refine i_range2 ?_ | with_reducible refine i_enum ?_ | with_reducible refine i_zip ?_
  | ((with_reducible refine i_I ?_); (with_reducible refine d_var rfl ?_); (with_reducible refine ⟨_, rfl, ?_⟩)) | ((with_reducible refine i_R ?_); (with_reducible refine d_var rfl ?_); (with_reducible refine ⟨_, rfl, ?_⟩)) | ((with_reducible refine i_D ?_); (with_reducible refine d_var rfl ?_); (with_reducible refine ⟨_, rfl, ?_⟩))
  | with_reducible refine ⟨_, rfl, ?_⟩)
local macro_rules | `(tactic| fail "mk") => `(tactic| first | refine ⟨[], rfl, Nat.le_of_ble_eq_true rfl, ?_⟩ | refine ⟨[_], rfl, Nat.le_of_ble_eq_true rfl, ?_⟩ | refine ⟨[_, _], rfl, Nat.le_of_ble_eq_true rfl, ?_⟩ | refine ⟨[_, _, _], rfl, Nat.le_of_ble_eq_true rfl, ?_⟩ | refine ⟨[_, _, _, _], rfl, Nat.le_of_ble_eq_true rfl, ?_⟩ | refine ⟨[_, _, _, _, _], rfl, Nat.le_of_ble_eq_true rfl, ?_⟩ | refine ⟨[_, _, _, _, _, _], rfl, Nat.le_of_ble_eq_true rfl, ?_⟩ | refine ⟨[_, _, _, _, _, _, _], rfl, Nat.le_of_ble_eq_true rfl, ?_⟩ | refine ⟨[_, _, _, _, _, _, _, _], rfl, Nat.le_of_ble_eq_true rfl, ?_⟩ | refine ⟨[_, _, _, _, _, _, _, _, _], rfl, Nat.le_of_ble_eq_true rfl, ?_⟩)

section
variable {P : Program} {w : World} {K : PySem.W.Frag} {mg : Str → Option Value} {base : Heap}
def isIntD : PyData → Bool
  | .int _ => true
  | _ => false
def spec_is_integer : Spec PyData := ⟨fun d xs S => ∃ x, xs = [x] ∧ Sees S x d, fun d S y S' => y = .d (.bool (isIntD d)) ∧ S = S'⟩
theorem kit_int (K : PySem.W.Frag) (d : PyData) : PySem.W.kitOne K (.type (tyD d)) (.type "int") = some (match d with | .int _ => true | .bool _ => true | _ => false) := by
  cases d <;> rfl
theorem kit_bool (K : PySem.W.Frag) (d : PyData) : PySem.W.kitOne K (.type (tyD d)) (.type "bool") = some (match d with | .bool _ => true | _ => false) := by
  cases d <;> rfl
theorem kit_list (K : PySem.W.Frag) (d : PyData) : PySem.W.kitOne K (.type (tyD d)) (.type "list") = some (match d with | .list _ => true | _ => false) := by
  cases d <;> rfl
theorem ok_is_integer  {a : Addr} {fd : FuncData} (F : Fun K "is_integer" "is_integer" s_is_integer a fd) (m_isinstance : mg "isinstance" = none) (m_int : mg "int" = none) (m_bool : mg "bool" = none) : FnG P w K mg base CX0 1 a fd ["value"] (spD K spec_is_integer) := by
  refine fn_G F sc_is_integer ?len (fun cdv A outer s H E hr hg => ⟨_, (pss_one (ps_ret (pe_and (pe_callB (kIsi K) (by rfl) m_isinstance (by decide +kernel) (pa_cons (pv 0) (pa_cons (pe_bltn (v := .ty "int") (by rfl) m_int (by decide +kernel) rfl) pa_nil))) (pe_one (pe_not (pe_callB (kIsi K) (by rfl) m_isinstance (by decide +kernel) (pa_cons (pv 0) (pa_cons (pe_bltn (v := .ty "bool") (by rfl) m_bool (by decide +kernel) rfl) pa_nil)))))))), ?main⟩)
  · rintro a xs S ⟨x, rfl, _⟩
    rfl
  · rintro d xs S ⟨x, rfl, hx⟩
    refine s_ret (d_andV (d_cb (d_acons (d_var rfl (d_acons (d_oth (d_anil (r_isi hx (kit_int K d) ⟨_, rfl, fun e1 => ?_, fun e1 => ?_⟩))))))))
    · refine d_notV (d_cb (d_acons (d_var rfl (d_acons (d_oth (d_anil (r_isi hx (kit_bool K d) ⟨_, rfl, ?_, rfl⟩)))))))
      cases d <;> first | rfl | cases e1
    · refine ⟨?_, rfl⟩
      cases d <;> first | rfl | cases e1

def spec_place_raised : Spec (Int × Int × Int) := ⟨fun a xs S => xs = [.d (.int a.1), .d (.int a.2.1), .d (.int a.2.2)], fun a S y S' => y = .d (.int (plR a.1 a.2.1 a.2.2)) ∧ S = S'⟩
theorem ok_place_raised  {a : Addr} {fd : FuncData} (F : Fun K "_place_raised" "_place_raised" s_place_raised a fd)  : FnG P w K mg base CX0 1 a fd ["place", "hit", "target"] (spD K spec_place_raised) := by
  refine fn_G F sc_place_raised ?len (fun cdv A outer s H E hr hg => ⟨_, (pss_cons (ps_if (pt_cmpR (kEqD K hr.units) (pv 0) (pv 1) (nomark _)) (pss_one (ps_ret (pv 2))) pss_nil)
    (pss_cons (ps_if (pt_chain op_lt op_le (pv 1) (pv 0) (pv 2)) (pss_one (ps_ret (pe_op op_sub (pv 0) pe_int))) pss_nil)
    (pss_one (ps_ret (pv 0))))), ?main⟩)
  · rintro a xs S rfl
    rfl
  · rintro ⟨p, h, t⟩ xs S rfl
    dsimp only
    (repeat fail "dx")
    refine r_eqD (.d _) (.d _) rfl rfl ?_
    rw [eqv_int]
    refine ⟨_, rfl, fun e => ?_, fun e => ?_⟩
    · (repeat fail "dx")
      exact ⟨by unfold plR; rw [if_pos (of_decide_eq_true e)], rfl⟩
    have e := of_decide_eq_false e
    refine s_next ?_
    (repeat fail "dx")
    refine ⟨fun e1 => ?_, fun e1 => ?_⟩
    · have e1 := of_decide_eq_true e1
      (repeat fail "dx")
      refine ⟨fun e2 => ?_, fun e2 => ?_⟩
      · have e2 := of_decide_eq_true e2
        (repeat fail "dx")
        exact ⟨by unfold plR; rw [if_neg e, if_pos ⟨e1, e2⟩], rfl⟩
      · have e2 := of_decide_eq_false e2
        refine s_next ?_
        (repeat fail "dx")
        exact ⟨by unfold plR; rw [if_neg e, if_neg fun z => e2 z.2], rfl⟩
    · have e1 := of_decide_eq_false e1
      (repeat fail "dx")
      refine ⟨fun z => (by cases z), fun _ => ?_⟩
      refine s_next ?_
      (repeat fail "dx")
      exact ⟨by unfold plR; rw [if_neg e, if_neg fun z => e1 z.1], rfl⟩

/-- where the block at a place goes at a hit, in the tree -/
def placeT (p h k : Int) : Int := if p = h then k - 1 else
  Builtin.bitOr p (2 * Builtin.bitAnd (Builtin.bitXor p h) (-(Builtin.bitXor p h)) - 1) - Builtin.bitAnd (Builtin.bitXor p h) (-(Builtin.bitXor p h))
def spec_place_in_tree : Spec (Int × Int × Int) := ⟨fun a xs S => xs = [.d (.int a.1), .d (.int a.2.1), .d (.int a.2.2)], fun a S y S' => y = .d (.int (placeT a.1 a.2.1 a.2.2)) ∧ S = S'⟩
theorem ok_place_in_tree  {a : Addr} {fd : FuncData} (F : Fun K "_place_in_tree" "_place_in_tree" s_place_in_tree a fd)  : FnG P w K mg base CX0 1 a fd ["place", "hit", "k"] (spD K spec_place_in_tree) := by
  refine fn_G F sc_place_in_tree ?len (fun cdv A outer s H E hr hg => ⟨_, (pss_cons (ps_if (pt_cmpR (kEqD K hr.units) (pv 0) (pv 1) (nomark _)) (pss_one (ps_ret (pe_op op_sub (pv 2) pe_int))) pss_nil)
    (pss_cons (ps_set (i := 3) sc_place_in_tree.nd rfl (Or.inl rfl) (pe_op op_xor (pv 0) (pv 1)))
    (pss_cons (ps_set (i := 4) sc_place_in_tree.nd rfl (Or.inl rfl) (pe_op op_and (pv 3) (pe_un un_neg (pv 3))))
    (pss_one (ps_ret (pe_op op_sub (pe_op op_or (pv 0) (pe_op op_sub (pe_op op_mul pe_int (pv 4)) pe_int)) (pv 4))))))), ?main⟩)
  · rintro a xs S rfl
    rfl
  · rintro ⟨p, h, k⟩ xs S rfl
    (repeat fail "dx")
    refine r_eqD (.d _) (.d _) rfl rfl ?_
    rw [eqv_int]
    refine ⟨_, rfl, fun e => ?_, fun e => ?_⟩
    · (repeat fail "dx")
      have e := of_decide_eq_true e
      exact ⟨by unfold placeT; rw [if_pos e], rfl⟩
    · have e := of_decide_eq_false e
      refine s_next ?_
      (repeat fail "dx")
      exact ⟨by unfold placeT; rw [if_neg e], rfl⟩

/-- the drawing state -/
abbrev srcC (a b c : Int) : Ce := .lst [.d (.int a), .d (.int b), .d (.int c)]
/-- its bounds: n draws at most -/
structure SrcOk (a b c n : Int) : Prop where
  a0 : 0 ≤ a
  b0 : 0 ≤ b
  b1 : b < 2 ^ 140
  c0 : 0 ≤ c
  c1 : c ≤ n
theorem SrcOk.le {a b c n m : Int} (h : SrcOk a b c n) (e : n ≤ m) : SrcOk a b c m := ⟨h.a0, h.b0, h.b1, h.c0, by have := h.c1; omega⟩
def spec_law_source : Spec (Int × Int) := ⟨fun a xs S => xs = [.d (.int a.1), .d (.int a.2)] ∧ 0 ≤ a.2 ∧ a.2 ≤ 1000, fun _ S y S' => ∃ p a b, y = .r p ∧ S' = (p, srcC a b 0) :: S ∧ SrcOk a b 0 0⟩
theorem ok_law_source  {a : Addr} {fd : FuncData} (F : Fun K "_law_source" "_law_source" s_law_source a fd) (m_int : mg "int" = none) (m_abs : mg "abs" = none) (m_max : mg "max" = none) : FnG P w K mg base CX0 1 a fd ["_law_cell", "_law_nth"] (spD K spec_law_source) := by
  refine fn_G F sc_law_source ?len (fun cdv A outer s H E hr hg => ⟨_, (pss_one (ps_ret (pe_lst (pa_cons (pe_callB (c_max2 rfl) (by rfl) m_max (by decide +kernel) (pa_cons pe_int (pa_cons (pe_op op_sub (pe_callB c_abs (by rfl) m_abs (by decide +kernel) (pa_cons (pv 0) pa_nil)) (pe_op op_powW pe_int pe_int)) pa_nil))) (pa_cons (pe_op op_add (pe_op op_add (pe_op op_mul (pe_op op_modP (pe_callTy c_int1 (by rfl) m_int (by decide +kernel) (pa_cons (pe_callB c_abs (by rfl) m_abs (by decide +kernel) (pa_cons (pv 0) pa_nil)) pa_nil)) (pe_op op_add (pe_op op_powW pe_int pe_int) pe_int)) pe_int) (pe_op op_mul pe_int (pv 1))) pe_int) (pa_cons pe_int pa_nil)))))), ?main⟩)
  · rintro a xs S ⟨rfl, _⟩
    rfl
  · rintro ⟨c, n⟩ xs S ⟨rfl, n0, n1⟩
    dsimp only [cx_K] at n0 n1 ⊢
    (repeat fail "dx")
    refine ⟨by show 3 ≤ sizeLine; decide, fun p => ⟨p, _, _, rfl, rfl, ?_⟩⟩
    have h1 := Int.emod_nonneg (if c < 0 then -c else c) (b := 10 ^ 37 + 43) (by decide)
    have h2 := Int.emod_lt_of_pos (if c < 0 then -c else c) (b := 10 ^ 37 + 43) (by decide)
    have e1 : (10 : Int) ^ Int.toNat 37 = 10 ^ 37 := rfl
    rw [e1]
    refine ⟨?_, ?_, ?_, by omega, by omega⟩
    · split <;> omega
    · omega
    · have : (2 : Int) ^ 140 = 1393796574908163946345982392040522594123776 := by decide
      omega

structure DrawA where
  A : Sto
  B : Sto
  p : Addr
  a : Int
  b : Int
  c : Int
  n : Int
  m : Int
def spec_law_draw : Spec DrawA := ⟨fun g xs S => xs = [.r g.p, .d (.int g.m)] ∧ S = g.A ++ (g.p, srcC g.a g.b g.c) :: g.B ∧ SrcOk g.a g.b g.c g.n ∧ g.n < 2 ^ 60 ∧ 0 < g.m ∧ g.m < 2 ^ 8000,
  fun g _ y S' => ∃ k a c, y = .d (.int k) ∧ 0 ≤ k ∧ k < g.m ∧ SrcOk a g.b c (g.n + 1) ∧ S' = g.A ++ (g.p, srcC a g.b c) :: g.B⟩
structure SrcA where
  A : Sto
  B : Sto
  p : Addr
  a : Int
  b : Int
  c : Int
  n : Int
/-- a def that draws: the state in, the state out, k draws at most -/
def srcIn (g : SrcA) (S : Sto) : Prop := S = g.A ++ (g.p, srcC g.a g.b g.c) :: g.B ∧ SrcOk g.a g.b g.c g.n ∧ g.n < 2 ^ 50
def srcOut (g : SrcA) (k : Int) (S' : Sto) : Prop := ∃ a c, SrcOk a g.b c (g.n + k) ∧ S' = g.A ++ (g.p, srcC a g.b c) :: g.B
theorem ok_law_draw  {a : Addr} {fd : FuncData} (F : Fun K "_law_draw" "_law_draw" s_law_draw a fd) (m_int : mg "int" = none) : FnG P w K mg base CX0 1 a fd ["_law_source_here", "_law_many"] (spD K spec_law_draw) := by
  refine fn_G F sc_law_draw ?len (fun cdv A outer s H E hr hg => ⟨_, (pss_cons (ps_if (pt_cmpR op_gt (pe_ix (kIxL K) (pv 0) pe_int (fun _ _ => rfl)) pe_int (nomark _)) (pss_cons (ps_set (i := 2) sc_law_draw.nd rfl (Or.inl rfl) (pe_op op_modP (pe_callTy c_int1 (by rfl) m_int (by decide +kernel) (pa_cons (pe_ix (kIxL K) (pv 0) pe_int (fun _ _ => rfl)) pa_nil)) (pv 1)))
    (pss_cons (ps_asg (pe_op op_fdivW (pe_ix (kIxL K) (pv 0) pe_int (fun _ _ => rfl)) (pv 1)) (pg_sub (pv 0) pe_int set_list))
    (pss_one (ps_ret (pv 2))))) pss_nil)
    (pss_cons (ps_asg (pe_op op_add (pe_ix (kIxL K) (pv 0) pe_int (fun _ _ => rfl)) pe_int) (pg_sub (pv 0) pe_int set_list))
    (pss_cons (ps_set (i := 3) sc_law_draw.nd rfl (Or.inl rfl) (pe_op op_modP (pe_callTy c_int1 (by rfl) m_int (by decide +kernel) (pa_cons (pe_op op_powW (pe_op op_add (pe_ix (kIxL K) (pv 0) pe_int (fun _ _ => rfl)) (pe_op op_mul pe_int (pe_ix (kIxL K) (pv 0) pe_int (fun _ _ => rfl)))) pe_int) pa_nil)) (pe_op op_add (pe_op op_powW pe_int pe_int) pe_int)))
    (pss_cons (ps_set (i := 3) sc_law_draw.nd rfl (Or.inl rfl) (pe_op op_modP (pe_callTy c_int1 (by rfl) m_int (by decide +kernel) (pa_cons (pe_op op_powW (pe_op op_add (pv 3) (pe_op op_mul pe_int (pe_ix (kIxL K) (pv 0) pe_int (fun _ _ => rfl)))) pe_int) pa_nil)) (pe_op op_add (pe_op op_powW pe_int pe_int) pe_int)))
    (pss_one (ps_ret (pe_op op_modP (pe_callTy c_int1 (by rfl) m_int (by decide +kernel) (pa_cons (pe_op op_fdivW (pv 3) pe_int) pa_nil)) (pv 1)))))))), ?main⟩)
  · rintro a xs S ⟨rfl, _⟩
    rfl
  · rintro ⟨A, B, p, a, b, c, n, m⟩ xs S ⟨rfl, rfl, ok, hn, m0, m1⟩
    dsimp only [cx_K] at ok hn m0 m1 ⊢
    have hd : ∀ i : Int, CDivW i m := fun i => divW_ok m0 m1
    obtain ⟨o1, o2, o3, o4, o5⟩ := ok
    (repeat fail "dx")
    refine ⟨fun e => ?_, fun e => ?_⟩
    · (repeat fail "dx")
      refine r_c (hd _) ?_
      (repeat fail "dx")
      exact ⟨_, _, _, rfl, Int.emod_nonneg _ (by omega), Int.emod_lt_of_pos _ m0, ⟨Int.ediv_nonneg o1 (by omega), o2, o3, o4, by dsimp only; omega⟩, rfl⟩
    · refine s_next ?_
      (repeat fail "dx")
      refine r_pow ?_ (by decide) (by decide) ?_
      · have e2 : (2 : Int) ^ 140 = 1393796574908163946345982392040522594123776 := by decide
        have e3 : (2 : Int) ^ 60 = 1152921504606846976 := by decide
        omega
      (repeat fail "dx")
      refine r_pow ?_ (by decide) (by decide) ?_
      · rw [show (10 : Int) ^ Int.toNat 42 = 10 ^ 42 from rfl]
        generalize (b + 49979687 * (c + 1)) ^ Int.toNat 3 = z
        have h1 := Int.emod_nonneg z (b := 10 ^ 42 + 63) (by decide)
        have h2 := Int.emod_lt_of_pos z (b := 10 ^ 42 + 63) (by decide)
        have e3 : (2 : Int) ^ 60 = 1152921504606846976 := by decide
        omega
      (repeat fail "dx")
      exact ⟨_, _, _, rfl, Int.emod_nonneg _ (by omega), Int.emod_lt_of_pos _ m0, ⟨o1, o2, o3, by omega, by dsimp only; omega⟩, rfl⟩

-- HOT
def es_law_word_of (mg : Str → Option Value) : ESpec Unit := ⟨fun _ a cls d xs S => xs = [.o (.ref a)] ∧ cls = .ref (clsA mg "InvalidNumber") ∧ d = none, fun _ S y S' => y = .d (.tuple [.str "number"]) ∧ S' = S⟩
def wordsN : List (Str × Bool) := [("permutation", false), ("number", true), ("size", false), ("permutations", false), ("rule", false), ("row", false), ("stream", false), ("many", false)]
theorem take_step {ts : List (Str × Bool)} {i : Nat} {t : Str × Bool} (h : ts[i]? = some t) : ((ts.take (i + 1)).filter (·.2)).map (fun t => PyData.str t.1) = ((ts.take i).filter (·.2)).map (fun t => PyData.str t.1) ++ (if t.2 = true then [.str t.1] else []) := by
  rw [List.take_add_one, h, Option.toList_some, List.filter_append, List.map_append]
  cases e : t.2 with
  | true => rw [List.filter_cons_of_pos (by exact e)]; rfl
  | false => rw [List.filter_cons_of_neg (by rw [e]; exact Bool.false_ne_true)]; rfl
theorem ek_law_word_of  {a : Addr} {fd : FuncData} (F : Fun K "_law_word_of" "_law_word_of" s_law_word_of a fd) (x_InvalidNumber : mg "InvalidNumber" = some (.ref (clsA mg "InvalidNumber"))) (x_InvalidPermutation : mg "InvalidPermutation" = some (.ref (clsA mg "InvalidPermutation"))) (x_InvalidPermutations : mg "InvalidPermutations" = some (.ref (clsA mg "InvalidPermutations"))) (x_OtherSize : mg "OtherSize" = some (.ref (clsA mg "OtherSize"))) (x_InvalidRow : mg "InvalidRow" = some (.ref (clsA mg "InvalidRow"))) (x_InvalidRule : mg "InvalidRule" = some (.ref (clsA mg "InvalidRule"))) (x_TooMany : mg "TooMany" = some (.ref (clsA mg "TooMany"))) (x_InvalidStream : mg "InvalidStream" = some (.ref (clsA mg "InvalidStream"))) (x_InvalidWide : mg "InvalidWide" = some (.ref (clsA mg "InvalidWide"))) (x_InvalidTable : mg "InvalidTable" = some (.ref (clsA mg "InvalidTable"))) (x_InvalidRules : mg "InvalidRules" = some (.ref (clsA mg "InvalidRules"))) (x_InvalidRows : mg "InvalidRows" = some (.ref (clsA mg "InvalidRows"))) (x_InvalidOutcomes : mg "InvalidOutcomes" = some (.ref (clsA mg "InvalidOutcomes"))) (x_InvalidBlock : mg "InvalidBlock" = some (.ref (clsA mg "InvalidBlock"))) (ek : ErrK K mg RSl TSl FSl) (m_isinstance : mg "isinstance" = none) (m_len : mg "len" = none) (m_ValueError : mg "ValueError" = none) : FnE P w K mg base 1 a fd ["_law_e"] (spE K (es_law_word_of mg)) := by
  refine fn_E F sc_law_word_of ?len (fun cdv A outer s H E ea oe cls ed hr hg hz hf hh => ⟨_, (pss_cons (ps_set (i := 1) sc_law_word_of.nd rfl (Or.inl rfl) (pe_lst (pa_cons (pe_tup (pa_cons pe_str (pa_cons (pe_callB (k_isP K List.mem_cons_self hz hf) (by rfl) m_isinstance (by decide +kernel) (pa_cons (pv 0) (pa_cons (pe_glob (v := .ref (clsA mg "InvalidPermutation")) (by rfl) x_InvalidPermutation rfl) pa_nil))) pa_nil))) (pa_cons (pe_tup (pa_cons pe_str (pa_cons (pe_callB (k_isP K List.mem_cons_self hz hf) (by rfl) m_isinstance (by decide +kernel) (pa_cons (pv 0) (pa_cons (pe_glob (v := .ref (clsA mg "InvalidNumber")) (by rfl) x_InvalidNumber rfl) pa_nil))) pa_nil))) pa_nil))))
    (pss_cons (ps_set (i := 1) sc_law_word_of.nd rfl (Or.inl rfl) (pe_op (kCat K) (pv 1) (pe_lst (pa_cons (pe_tup (pa_cons pe_str (pa_cons (pe_callB (k_isP K List.mem_cons_self hz hf) (by rfl) m_isinstance (by decide +kernel) (pa_cons (pv 0) (pa_cons (pe_glob (v := .ref (clsA mg "OtherSize")) (by rfl) x_OtherSize rfl) pa_nil))) pa_nil))) (pa_cons (pe_tup (pa_cons pe_str (pa_cons (pe_callB (k_isP K List.mem_cons_self hz hf) (by rfl) m_isinstance (by decide +kernel) (pa_cons (pv 0) (pa_cons (pe_glob (v := .ref (clsA mg "InvalidPermutations")) (by rfl) x_InvalidPermutations rfl) pa_nil))) pa_nil))) pa_nil)))))
    (pss_cons (ps_set (i := 1) sc_law_word_of.nd rfl (Or.inl rfl) (pe_op (kCat K) (pv 1) (pe_lst (pa_cons (pe_tup (pa_cons pe_str (pa_cons (pe_callB (k_isP K List.mem_cons_self hz hf) (by rfl) m_isinstance (by decide +kernel) (pa_cons (pv 0) (pa_cons (pe_glob (v := .ref (clsA mg "InvalidRule")) (by rfl) x_InvalidRule rfl) pa_nil))) pa_nil))) (pa_cons (pe_tup (pa_cons pe_str (pa_cons (pe_callB (k_isP K List.mem_cons_self hz hf) (by rfl) m_isinstance (by decide +kernel) (pa_cons (pv 0) (pa_cons (pe_glob (v := .ref (clsA mg "InvalidRow")) (by rfl) x_InvalidRow rfl) pa_nil))) pa_nil))) pa_nil)))))
    (pss_cons (ps_set (i := 1) sc_law_word_of.nd rfl (Or.inl rfl) (pe_op (kCat K) (pv 1) (pe_lst (pa_cons (pe_tup (pa_cons pe_str (pa_cons (pe_callB (k_isP K List.mem_cons_self hz hf) (by rfl) m_isinstance (by decide +kernel) (pa_cons (pv 0) (pa_cons (pe_glob (v := .ref (clsA mg "InvalidStream")) (by rfl) x_InvalidStream rfl) pa_nil))) pa_nil))) (pa_cons (pe_tup (pa_cons pe_str (pa_cons (pe_callB (k_isP K List.mem_cons_self hz hf) (by rfl) m_isinstance (by decide +kernel) (pa_cons (pv 0) (pa_cons (pe_glob (v := .ref (clsA mg "TooMany")) (by rfl) x_TooMany rfl) pa_nil))) pa_nil))) pa_nil)))))
    (pss_cons (ps_set (i := 2) sc_law_word_of.nd rfl (Or.inl rfl) (pe_callB (k_isPT K List.mem_cons_self hz hf) (by rfl) m_isinstance (by decide +kernel) (pa_cons (pv 0) (pa_cons (pe_tup (pa_cons (pe_glob (v := .ref (clsA mg "InvalidBlock")) (by rfl) x_InvalidBlock rfl) (pa_cons (pe_glob (v := .ref (clsA mg "InvalidOutcomes")) (by rfl) x_InvalidOutcomes rfl) (pa_cons (pe_glob (v := .ref (clsA mg "InvalidRows")) (by rfl) x_InvalidRows rfl) (pa_cons (pe_glob (v := .ref (clsA mg "InvalidRules")) (by rfl) x_InvalidRules rfl) (pa_cons (pe_glob (v := .ref (clsA mg "InvalidTable")) (by rfl) x_InvalidTable rfl) (pa_cons (pe_glob (v := .ref (clsA mg "InvalidWide")) (by rfl) x_InvalidWide rfl) pa_nil))))))) pa_nil))))
    (pss_cons (ps_setLcW (i := 3) (own := [("_law_name", 4), ("_law_is_one", 5)]) (g := (gTup K 2 (gCons (gName 4) (gCons (gName 5) gNil)))) K (hotX_pn List.mem_cons_self hh hz hf) sc_law_word_of.nd rfl rfl (sw_true rfl rfl rfl (by decide +kernel)) (pv 1) (blkOk_by (N := ["_law_e", "_law_some", "_law_odd", "_law_found", "_law_name", "_law_is_one"]) (sc := (defScope s_law_word_of)) (by decide +kernel)) (fun _ _ _ _ _ hx => (pg_tupW K hx (pgs_cons (pg_name (i := 4) sc_law_word_of.nd rfl (Or.inl rfl)) (pgs_cons (pg_name (i := 5) sc_law_word_of.nd rfl (Or.inl rfl)) pgs_nil)))) (fun _ _ _ _ _ => (pts_one (pt_val (pv 5)))) (fun _ _ _ _ _ => (pv 4)))
    (pss_cons (ps_if (PW.pt (pw_or (pt_val (pv 2)) (pw_or (pt_cmpR (kNeD K (roomH_units hr)) (pe_callB (kLen K) (by rfl) m_len (by decide +kernel) (pa_cons (pv 3) pa_nil)) pe_int (nomark _)) (pw_or1 (pt_not (pt_val (pe_callB (k_isP K List.mem_cons_self hz hf) (by rfl) m_isinstance (by decide +kernel) (pa_cons (pv 0) (pa_cons (pe_bltn (v := .ty "ValueError") (by rfl) m_ValueError (by decide +kernel) rfl) pa_nil))))))))) (pss_one (ps_ret (pe_tup (pa_cons pe_str pa_nil)))) pss_nil)
    (pss_cons (ps_if (pt_cmpR (kIn K) (pe_ix (kIxL K) (pv 3) pe_int (fun _ _ => rfl)) (pe_tup (pa_cons pe_str (pa_cons pe_str (pa_cons pe_str (pa_cons pe_str pa_nil))))) rfl) (pss_one (ps_ret (pe_tup (pa_cons (pe_ix (kIxL K) (pv 3) pe_int (fun _ _ => rfl)) (pa_cons (pe_xfP K List.mem_cons_self hz hf (pv 0)) pa_nil))))) pss_nil)
    (pss_one (ps_ret (pe_ifExp (pt_cmpR (kEqD K (roomH_units hr)) (pe_ix (kIxL K) (pv 3) pe_int (fun _ _ => rfl)) pe_str (nomark _)) (pe_tup (pa_cons (pe_ix (kIxL K) (pv 3) pe_int (fun _ _ => rfl)) (pa_cons (pe_xfP K List.mem_cons_self hz hf (pv 0)) pa_nil))) (pe_tup (pa_cons (pe_ix (kIxL K) (pv 3) pe_int (fun _ _ => rfl)) pa_nil))))))))))))), ?main⟩)
  · rintro u a cls d xs S ⟨rfl, _⟩
    rfl
  · rintro u xs S ⟨rfl, rfl, rfl⟩
    have hd : DctS none S := .inl rfl
    fail "vstart"
    (repeat fail "vx")
    refine v_lst ?_
    (repeat fail "vx")
    refine v_tup ?_
    (repeat fail "vx")
    refine r_isCe false ek (by decide) (by decide) (by decide) hd ?_
    (repeat fail "vx")
    refine ⟨[_, _], rfl, by show 2 ≤ 100; decide, ?_⟩
    (repeat fail "vx")
    refine v_tup ?_
    (repeat fail "vx")
    refine r_isCe true ek (by decide) (by decide) (by decide) hd ?_
    (repeat fail "vx")
    refine ⟨[_, _], rfl, by show 2 ≤ 100; decide, ?_⟩
    (repeat fail "vx")
    refine ⟨[_, _], rfl, by show 2 ≤ 100; decide, ?_⟩
    (repeat fail "vx")
    refine v_lst ?_
    (repeat fail "vx")
    refine v_tup ?_
    (repeat fail "vx")
    refine r_isCe false ek (by decide) (by decide) (by decide) hd ?_
    (repeat fail "vx")
    refine ⟨[_, _], rfl, by show 2 ≤ 100; decide, ?_⟩
    (repeat fail "vx")
    refine v_tup ?_
    (repeat fail "vx")
    refine r_isCe false ek (by decide) (by decide) (by decide) hd ?_
    (repeat fail "vx")
    refine ⟨[_, _], rfl, by show 2 ≤ 100; decide, ?_⟩
    (repeat fail "vx")
    refine ⟨[_, _], rfl, by show 2 ≤ 100; decide, ?_⟩
    refine v_cat (by show _ ≤ 100000; decide) ?_
    (repeat fail "vx")
    refine v_lst ?_
    (repeat fail "vx")
    refine v_tup ?_
    (repeat fail "vx")
    refine r_isCe false ek (by decide) (by decide) (by decide) hd ?_
    (repeat fail "vx")
    refine ⟨[_, _], rfl, by show 2 ≤ 100; decide, ?_⟩
    (repeat fail "vx")
    refine v_tup ?_
    (repeat fail "vx")
    refine r_isCe false ek (by decide) (by decide) (by decide) hd ?_
    (repeat fail "vx")
    refine ⟨[_, _], rfl, by show 2 ≤ 100; decide, ?_⟩
    (repeat fail "vx")
    refine ⟨[_, _], rfl, by show 2 ≤ 100; decide, ?_⟩
    refine v_cat (by show _ ≤ 100000; decide) ?_
    (repeat fail "vx")
    refine v_lst ?_
    (repeat fail "vx")
    refine v_tup ?_
    (repeat fail "vx")
    refine r_isCe false ek (by decide) (by decide) (by decide) hd ?_
    (repeat fail "vx")
    refine ⟨[_, _], rfl, by show 2 ≤ 100; decide, ?_⟩
    (repeat fail "vx")
    refine v_tup ?_
    (repeat fail "vx")
    refine r_isCe false ek (by decide) (by decide) (by decide) hd ?_
    (repeat fail "vx")
    refine ⟨[_, _], rfl, by show 2 ≤ 100; decide, ?_⟩
    (repeat fail "vx")
    refine ⟨[_, _], rfl, by show 2 ≤ 100; decide, ?_⟩
    refine v_cat (by show _ ≤ 100000; decide) ?_
    (iterate 3 fail "vx")
    refine v_isNTe ["InvalidBlock", "InvalidOutcomes", "InvalidRows", "InvalidRules", "InvalidTable", "InvalidWide"] false ek (by decide) (by decide) (by decide) (by decide) ?_
    (repeat fail "vx")
    refine ⟨rfl, ?_⟩
    (repeat fail "vx")
    refine ⟨rfl, hd, ?_⟩
    (repeat fail "vx")
    refine v_lc (gw_tup (gw_cons (by decide) (gw_cons (by decide) gw_nil))) ?_
    refine i_D (d_var rfl ⟨wordsN.map fun t => .tuple [.str t.1, .bool t.2], rfl, ?_⟩)
    refine ⟨fun i acc S' => S' = S ∧ acc = ((wordsN.take i).filter (·.2)).map fun t => PyData.str t.1, ⟨rfl, rfl⟩, fun _ _ _ _ _ => trivial, ?_, ?_⟩
    · rintro D i acc S' y S2 hi ⟨rfl, rfl⟩ ⟨d, hd, rfl, rfl⟩
      rw [List.getElem?_map] at hd
      obtain ⟨t, ht, rfl⟩ := Option.map_eq_some_iff.mp hd
      have hst := take_step ht
      (repeat fail "vx")
      refine ⟨fun ht2 => ?_, fun ht2 => ⟨S', rfl, rfl, by rw [hst, if_neg (by rw [ht2]; decide), List.append_nil]⟩⟩
      (repeat fail "vx")
      refine ⟨_, S', .d, ?_, rfl, by rw [hst, if_pos ht2]⟩
      rw [List.length_map]
      exact Nat.lt_of_le_of_lt (Nat.le_trans (List.length_filter_le _ _) (List.length_take_le' _ _)) (show 8 < 100000 by decide)
    · rintro acc S' ⟨rfl, rfl⟩
      rw [show ((wordsN.take (wordsN.map fun t => PyData.tuple [.str t.1, .bool t.2]).length).filter (·.2)).map (fun t => PyData.str t.1) = [.str "number"] from rfl]
      (repeat fail "vx")
      refine ⟨fun z => (by cases z), fun _ => ?_⟩
      (repeat fail "vx")
      refine ⟨fun z => absurd (show false = true from z) (by decide), fun _ => ?_⟩
      (repeat fail "vx")
      refine r_isV ek (by decide) hd ?_
      (repeat fail "vx")
      refine ⟨fun z => (by cases z), fun _ => s_next ?_⟩
      (repeat fail "vx")
      refine r_in (ds := [.str "permutations", .str "rule", .str "row", .str "stream"]) (.d _) (.inr (.d _)) rfl rfl ?_
      refine ⟨false, rfl, fun z => (by cases z), fun _ => s_next ?_⟩
      refine s_ret (d_ifE ?_)
      (repeat fail "vx")
      refine r_eqD (.d _) (.d _) (by decide +kernel) (by decide +kernel) ?_
      refine ⟨_, rfl, fun z => absurd z (by decide +kernel), fun _ => ?_⟩
      (repeat fail "vx")
      exact ⟨rfl, rfl⟩

def spec_check_k : Spec Int := ⟨fun k xs S => xs = [.d (.int k)] ∧ 2 ≤ k ∧ k ≤ 12, fun _ S y S' => y = .d .none ∧ S = S'⟩
theorem ok_check_k {a_is_integer : Addr} {fd_is_integer : FuncData} {a : Addr} {fd : FuncData} (F : Fun K "_check_k" "_check_k" s_check_k a fd) (c_is_integer : CalG P w K mg base 1 "is_integer" a_is_integer fd_is_integer ["value"] (spD K spec_is_integer)) : FnG P w K mg base CX0 2 a fd ["k"] (spD K spec_check_k) := by
  refine fn_G F sc_check_k ?len (fun cdv A outer s H E hr hg => ⟨_, (pss_one (ps_if (PW.pt (pw_or (pt_not (pt_val (gcall c_is_integer.G (hr.mono (by decide)) hg (by rfl) c_is_integer.g c_is_integer.kp c_is_integer.b .nil pass0 (pa_cons (pv 0) pa_nil)))) (pw_or1 (pt_not (pt_chain op_le op_le pe_int (pv 0) pe_int))))) (pss_one ps_never) pss_nil)), ?main⟩)
  · rintro a xs S ⟨rfl, _⟩
    rfl
  · rintro k xs S ⟨rfl, h1, h2⟩
    (repeat fail "dx")
    refine ⟨.int k, ⟨_, rfl, .d _⟩, ?_⟩
    rintro _ S' ⟨rfl, rfl⟩
    refine ⟨_, rfl, fun e => (by cases e), fun _ => ?_⟩
    (repeat fail "dx")
    refine ⟨fun _ => ?_, fun e => absurd (of_decide_eq_false e) (by omega)⟩
    (repeat fail "dx")
    rw [decide_eq_true h2]
    refine ⟨fun e => (by cases e), fun _ => ?_⟩
    exact s_next ⟨rfl, rfl⟩

def isKD : PyData → Bool
  | .int i => decide (2 ≤ i) && decide (i ≤ 12)
  | _ => false
def xs_check_k (mg : Str → Option Value) : XSpec PyData := ⟨fun v xs S => xs = [.d v] ∧ isKD v = false, fun _ _ _ _ => False, fun _ S => XpO mg "InvalidNumber" S⟩
theorem xk_check_k {a_is_integer : Addr} {fd_is_integer : FuncData} {a : Addr} {fd : FuncData} (F : Fun K "_check_k" "_check_k" s_check_k a fd) (c_is_integer : CalG P w K mg base 1 "is_integer" a_is_integer fd_is_integer ["value"] (spD K spec_is_integer)) (T_InvalidNumber : OwC K mg "InvalidNumber" (clsA mg "InvalidNumber")) : FnG P w K mg base (L2N.CX P w) 2 a fd ["k"] (spX K (xs_check_k mg)) := by
  refine fn_X F sc_check_k ?len (fun cdv A outer s H E hr hg => ⟨_, (pss_one (ps_if (PW.pt (pw_or (pt_not (pt_val (gcall c_is_integer.G (hr.mono (by decide)) hg (by rfl) c_is_integer.g c_is_integer.kp c_is_integer.b .nil pass0 (pa_cons (pv 0) pa_nil)))) (pw_or1 (pt_not (pt_chain op_le op_le pe_int (pv 0) pe_int))))) (pss_one (L2N.ps_raise rfl (L2N.takes_of rfl rfl rfl rfl) (L2N.pmk_own PySem.F.excBase_ValueError T_InvalidNumber.q T_InvalidNumber.gC T_InvalidNumber.kC (raises_own T_InvalidNumber.bP T_InvalidNumber.tP) (by rfl)))) pss_nil)), ?main⟩)
  · rintro a xs S ⟨rfl, _⟩
    rfl
  · rintro v xs S F0 ⟨rfl, hi⟩ hW
    dsimp only at hi hW ⊢
    refine x_if ?_
    (repeat fail "dx")
    refine ⟨v, ⟨_, rfl, Sees.d v⟩, ?_⟩
    rintro _ S' ⟨rfl, rfl⟩
    refine ⟨_, rfl, fun z => ?_, fun z => ?_⟩
    · exact ⟨fun _ => x_upO hW rfl, fun z => (by cases z)⟩
    obtain ⟨k, rfl⟩ : ∃ k, v = .int k := by
      cases v <;> first | exact ⟨_, rfl⟩ | cases z
    have hk : (decide (2 ≤ k) && decide (k ≤ 12)) = false := hi
    (repeat fail "dx")
    refine ⟨fun h2 => ?_, fun h2 => ?_⟩
    · rw [h2, Bool.true_and] at hk
      (repeat fail "dx")
      rw [hk]
      exact ⟨fun _ => x_upO hW rfl, fun z => (by cases z)⟩
    · (repeat fail "dx")
      exact ⟨fun _ => x_upO hW rfl, fun z => (by cases z)⟩

/-- targets: each one at its index or above, below their number -/
structure IsT (t : List Int) : Prop where
  l1 : 2 ≤ t.length
  l2 : t.length ≤ 12
  at_ : ∀ i, i < t.length → (i : Int) ≤ t.getD i 0 ∧ t.getD i 0 < t.length
theorem li_lst {S : Sto} {x : Va} {t : List Int} (h : Sees S x (li t)) : Lst S x (vi t) := by
  rw [vi_map]
  exact h.lflat (by rw [List.all_map]; exact List.all_eq_true.mpr fun _ _ => rfl)
theorem vi_get {t : List Int} {i : Nat} (hi : i < t.length) {z : Va} (h : (vi t)[i]? = some z) : z = .d (.int (t.getD i 0)) := by
  unfold vi at h
  rw [List.getElem?_map, List.getElem?_eq_getElem hi] at h
  rw [getD_lt hi]
  exact (Option.some.inj h).symm
/-- the rule that lifts to these targets -/
def raisedM (t : List Int) : List (List Int) := (List.range t.length).map fun (i : Nat) => rowM t.length i (t.getD i 0)
theorem raised_len (t : List Int) : (raisedM t).length = t.length := by
  unfold raisedM
  rw [List.length_map, List.length_range]
def tgtAt (n i : Nat) : PyData → Bool
  | .int k => decide ((i : Int) ≤ k) && decide (k < (n : Int))
  | _ => false
/-- whether a value is a list of targets -/
def tgtD : PyData → Bool
  | .list ds => decide (2 ≤ ds.length) && decide (ds.length ≤ 12) && (List.range ds.length).all fun i => tgtAt ds.length i (ds.getD i .none)
  | _ => false
theorem tgt_isT {t : List Int} (h : IsT t) : tgtD (li t) = true := by
  have e : (t.map PyData.int).length = t.length := List.length_map _
  show (decide (2 ≤ (t.map PyData.int).length) && decide ((t.map PyData.int).length ≤ 12) && (List.range (t.map PyData.int).length).all fun i => tgtAt (t.map PyData.int).length i ((t.map PyData.int).getD i .none)) = true
  rw [e, decide_eq_true h.l1, decide_eq_true h.l2, Bool.true_and, Bool.true_and, List.all_eq_true]
  intro i hi
  have hi' := List.mem_range.mp hi
  obtain ⟨a, b⟩ := h.at_ i hi'
  rw [List.getD_eq_getElem?_getD, List.getElem?_map, List.getElem?_eq_getElem hi']
  rw [getD_lt hi'] at a b
  show (decide ((i : Int) ≤ t[i]) && decide (t[i] < (t.length : Int))) = true
  rw [decide_eq_true a, decide_eq_true b]
  rfl
def spec_are_targets : Spec PyData := ⟨fun d xs S => ∃ x, xs = [x] ∧ Sees S x d, fun d S y S' => y = .d (.bool (tgtD d)) ∧ S = S'⟩
theorem ok_are_targets {a_is_integer : Addr} {fd_is_integer : FuncData} {a : Addr} {fd : FuncData} (F : Fun K "_are_targets" "_are_targets" s_are_targets a fd) (c_is_integer : CalG P w K mg base 1 "is_integer" a_is_integer fd_is_integer ["value"] (spD K spec_is_integer)) (m_isinstance : mg "isinstance" = none) (m_list : mg "list" = none) (m_len : mg "len" = none) (m_all : mg "all" = none) (m_enumerate : mg "enumerate" = none) : FnG P w K mg base CX0 2 a fd ["value"] (spD K spec_are_targets) := by
  refine fn_G F sc_are_targets ?len (fun cdv A outer s H E hr hg => ⟨_, (pss_cons (ps_if (PW.pt (pw_or (pt_not (pt_val (pe_callB (kIsi K) (by rfl) m_isinstance (by decide +kernel) (pa_cons (pv 0) (pa_cons (pe_bltn (v := .ty "list") (by rfl) m_list (by decide +kernel) rfl) pa_nil))))) (pw_or1 (pt_not (pt_chain op_le op_le pe_int (pe_callB (kLen K) (by rfl) m_len (by decide +kernel) (pa_cons (pv 0) pa_nil)) pe_int))))) (pss_one (ps_ret pe_bl)) pss_nil)
    (pss_one (ps_ret (pe_callB (kAll K rfl) (by rfl) m_all (by decide +kernel) (pa_cons (pe_lc (own := [("place", 1), ("item", 2)]) (g := (gTup K 2 (gCons (gName 1) (gCons (gName 2) gNil)))) (tt := tYes) rfl sc_are_targets.nd (kPiE K (by rfl) m_enumerate (pa_cons (pv 0) pa_nil)) (blkOk_by (N := ["value", "place", "item"]) (sc := (defScope s_are_targets)) (by decide +kernel)) (fun _ _ _ _ _ => (kGT K rfl (pgs_cons (pg_name (i := 1) sc_are_targets.nd rfl (Or.inl rfl)) (pgs_cons (pg_name (i := 2) sc_are_targets.nd rfl (Or.inl rfl)) pgs_nil)))) (fun _ _ _ _ _ => pts_nil) (fun _ _ _ _ _ => (pe_and (gcall c_is_integer.G (hr.mono (by decide)) hg (by rfl) c_is_integer.g c_is_integer.kp c_is_integer.b .nil pass0 (pa_cons (pv 2) pa_nil)) (pe_one (pe_chain op_le op_lt (pv 1) (pv 2) (pe_callB (kLen K) (by rfl) m_len (by decide +kernel) (pa_cons (pv 0) pa_nil))))))) pa_nil))))), ?main⟩)
  · rintro a xs S ⟨x, rfl, _⟩
    rfl
  · rintro d xs S ⟨x, rfl, hx⟩
    (repeat fail "dx")
    refine r_isi hx (kit_list K d) ?_
    (repeat fail "dx")
    by_cases hv : ∃ ds, d = .list ds
    case neg =>
      refine ⟨fun _ => ⟨fun _ => ?_, fun z => (by cases z)⟩, fun z => ?_⟩
      · (repeat fail "dx")
        refine ⟨?_, rfl⟩
        cases d <;> first | exact absurd ⟨_, rfl⟩ hv | rfl
      · cases d <;> first | exact absurd ⟨_, rfl⟩ hv | cases z
    obtain ⟨ds, rfl⟩ := hv
    obtain ⟨zs, zl, zz⟩ := hx.lst
    have hzl : zs.length = ds.length := seesAll_len zz
    have e : tgtD (.list ds) = (decide (2 ≤ ds.length) && decide (ds.length ≤ 12) && (List.range ds.length).all fun i => tgtAt ds.length i (ds.getD i .none)) := rfl
    refine ⟨fun z => (by cases z), fun _ => ?_⟩
    (repeat fail "dx")
    rw [hzl]
    have bad : ¬ (2 ≤ ds.length ∧ ds.length ≤ 12) → tgtD (.list ds) = false := fun h => by
      rw [e]
      by_cases c : 2 ≤ ds.length
      · rw [decide_eq_false (show ¬ ds.length ≤ 12 from fun z => h ⟨c, z⟩), Bool.and_false, Bool.false_and]
      · rw [decide_eq_false c, Bool.false_and, Bool.false_and]
    refine ⟨fun h2 => ?_, fun h2 => ?_⟩
    rotate_left
    · have h3 := of_decide_eq_false h2
      (repeat fail "dx")
      refine ⟨fun _ => ?_, fun z => (by cases z)⟩
      (repeat fail "dx")
      refine ⟨?_, rfl⟩
      rw [bad (by omega)]
    have h2' : (2 : Int) ≤ (ds.length : Int) := of_decide_eq_true h2
    (repeat fail "dx")
    by_cases h12 : ds.length ≤ 12
    rotate_left
    · rw [decide_eq_false (show ¬ (ds.length : Int) ≤ 12 by omega)]
      refine ⟨fun _ => ?_, fun z => (by cases z)⟩
      (repeat fail "dx")
      refine ⟨?_, rfl⟩
      rw [bad (by omega)]
    rw [decide_eq_true (show (ds.length : Int) ≤ 12 by omega)]
    refine ⟨fun z => (by cases z), fun _ => s_next ?_⟩
    refine s_ret (d_less ?_)
    (repeat fail "dx")
    refine d_map (gw_tup (gw_cons (by decide) (gw_cons (by decide) gw_nil))) ?_
    (repeat fail "dx")
    refine ⟨_, _, rfl, zl, by rw [hzl]; exact sz_lt (by omega), fun _ _ => zl.tl, fun i => .bool (tgtAt ds.length i (ds.getD i .none)), ?_, ?_⟩
    · rintro D i acc y S2 hi ⟨T, z, hz, rfl, rfl⟩
      rw [hzl] at hi
      obtain ⟨v', hv', vs⟩ := seesAll_get zz (List.getElem?_eq_getElem hi)
      rw [hz] at hv'
      cases hv'
      refine g_tup (.r List.mem_cons_self) rfl (gs_cons (g_name (gs_cons (g_name (gs_nil ?_)))))
      have eg : ds.getD i .none = ds[i] := by rw [List.getD_eq_getElem?_getD, List.getElem?_eq_getElem hi]; rfl
      show dE K _ _ _ (fun z S5 => Frz z S5 (.bool (tgtAt ds.length i (ds.getD i .none))) ((D, Ce.lst acc) :: S))
      rw [eg]
      (repeat fail "dx")
      refine ⟨ds[i], ⟨_, rfl, vs.tl.tl⟩, ?_⟩
      rintro _ S' ⟨rfl, rfl⟩
      generalize ds[i] = di at vs
      refine ⟨_, rfl, fun hq => ?_, fun hq => ?_⟩
      · obtain ⟨k, rfl⟩ : ∃ k, di = .int k := by
          cases di <;> first | exact ⟨_, rfl⟩ | cases hq
        obtain rfl : z = .d (.int k) := by
          cases vs
          rfl
        (repeat fail "dx")
        refine ⟨fun h3 => ?_, fun h3 => ?_⟩
        · (repeat fail "dx")
          rw [hzl, show tgtAt ds.length i (.int k) = decide (k < (ds.length : Int)) by show (decide ((i : Int) ≤ k) && _) = _; rw [h3, Bool.true_and]]
          exact .less .d (List.sublist_cons_self _ _)
        · rw [show tgtAt ds.length i (.int k) = false by show (decide ((i : Int) ≤ k) && _) = _; rw [h3, Bool.false_and]]
          exact .less .d (List.sublist_cons_self _ _)
      · rw [show tgtAt ds.length i di = false by cases di <;> first | rfl | cases hq]
        exact .less .d (List.sublist_cons_self _ _)
    · intro D
      (repeat fail "dx")
      refine r_all (bs := (List.range ds.length).map fun i => tgtAt ds.length i (ds.getD i .none)) (Sees.ofLst (.r ?_)) ?_
      · rw [List.map_map, List.map_map, hzl]
        exact List.mem_cons_self
      · refine ⟨S, List.sublist_cons_self _ _, ?_, rfl⟩
        rw [e, decide_eq_true (show 2 ≤ ds.length by omega), decide_eq_true h12, Bool.true_and, Bool.true_and, List.all_map]
        rfl

def treeM (k : Int) : List (List Int) := (List.range k.toNat).map fun (i : Nat) => (List.range k.toNat).map fun (j : Nat) => placeT j i k
def spec_tree : Spec Int := ⟨fun k xs _ => xs = [.d (.int k)] ∧ (k = 2 ∨ k = 4 ∨ k = 8), fun k S y S' => ∃ (p : Addr) (C : List (Addr × List Int)), y = .r p ∧ C.map (·.2) = treeM k ∧ S' = (C.map rowC).reverse ++ (p, .lst (C.map rowR)) :: S⟩
theorem ok_tree {a_is_integer : Addr} {fd_is_integer : FuncData} {a_place_in_tree : Addr} {fd_place_in_tree : FuncData} {a : Addr} {fd : FuncData} (F : Fun K "tree" "tree" s_tree a fd) (c_is_integer : CalG P w K mg base 1 "is_integer" a_is_integer fd_is_integer ["value"] (spD K spec_is_integer)) (c_place_in_tree : CalG P w K mg base 1 "_place_in_tree" a_place_in_tree fd_place_in_tree ["place", "hit", "k"] (spD K spec_place_in_tree)) (m_range : mg "range" = none) : FnG P w K mg base CX0 2 a fd ["k"] (spD K spec_tree) := by
  refine fn_G F sc_tree ?len (fun cdv A outer s H E hr hg => ⟨_, (pss_cons (ps_if (PW.pt (pw_or (pt_not (pt_val (gcall c_is_integer.G (hr.mono (by decide)) hg (by rfl) c_is_integer.g c_is_integer.kp c_is_integer.b .nil pass0 (pa_cons (pv 0) pa_nil)))) (pw_or1 (pt_cmpR (kNotIn K) (pv 0) (pe_tup (pa_cons pe_int (pa_cons pe_int (pa_cons pe_int pa_nil)))) rfl)))) (pss_one ps_never) pss_nil)
    (pss_one (ps_ret (pe_lc (own := [("i", 1)]) (g := (gName 1)) (tt := tYes) rfl sc_tree.nd (pi_range1 (by rfl) m_range (pa_cons (pv 0) pa_nil)) (blkOk_by (N := ["k", "i", "j"]) (sc := (defScope s_tree)) (by decide +kernel)) (fun _ _ _ _ _ => (pg_name (i := 1) sc_tree.nd rfl (Or.inr rfl))) (fun _ _ _ _ _ => pts_nil) (fun _ _ _ _ _ => (pe_lc (own := [("j", 2)]) (g := (gName 2)) (tt := tYes) rfl sc_tree.nd (pi_range1 (by rfl) m_range (pa_cons (pv 0) pa_nil)) (blkOk_by (N := ["k", "i", "j"]) (sc := (relS { kind := PySem.ScopeKind.function, names := [ (PySem.Str.ofString ".0", PySem.NameKind.local), (PySem.Str.ofString "i", PySem.NameKind.cell), (PySem.Str.ofString "range", PySem.NameKind.globalImplicit), (PySem.Str.ofString "k", PySem.NameKind.free)], isGenerator := false, isCoroutine := false, more := [] : PySem.Scope } (defScope s_tree))) (by decide +kernel)) (fun _ _ _ _ _ => (pg_name (i := 2) sc_tree.nd rfl (Or.inl rfl))) (fun _ _ _ _ _ => pts_nil) (fun _ _ _ _ _ => (gcall c_place_in_tree.G (hr.mono (by decide)) hg (by rfl) c_place_in_tree.g c_place_in_tree.kp c_place_in_tree.b .nil pass0 (pa_cons (pv 2) (pa_cons (pv 1) (pa_cons (pv 0) pa_nil))))))))))), ?main⟩)
  · rintro a xs S ⟨rfl, _⟩
    rfl
  · rintro k xs S ⟨rfl, hk⟩
    (repeat fail "dx")
    refine ⟨.int k, ⟨_, rfl, .d _⟩, ?_⟩
    rintro y S' ⟨rfl, rfl⟩
    (repeat fail "dx")
    refine ⟨fun e => (by cases e), fun _ => ?_⟩
    (repeat fail "dx")
    refine ⟨by show 3 ≤ sizeLine; decide, fun T => ?_⟩
    refine r_in (ds := [.int 2, .int 4, .int 8]) (.d _) (.inr (.t List.mem_cons_self (seesAll_d [.int 2, .int 4, .int 8]))) rfl rfl ?_
    refine ⟨_, rfl, fun e => ?_, fun _ => ?_⟩
    · rcases hk with rfl | rfl | rfl <;> exact absurd e (by decide)
    refine s_next ?_
    refine s_weak (List.sublist_cons_self _ _) ?_
    refine s_ret (d_lc (gw_name (by decide)) ?_)
    (repeat fail "dx")
    refine ⟨by omega, by omega, fun D => ⟨fun i S' => ∃ C : List (Addr × List Int), C.map (·.2) = (treeM k).take i ∧ S' = (C.map rowC).reverse ++ (D, .lst (C.map rowR)) :: S, ⟨[], rfl, rfl⟩, fun _ _ _ => trivial, ?_, ?_⟩⟩
    · rintro i S' y S2 hi ⟨C, hC, rfl⟩ ⟨rfl, rfl⟩
      (repeat fail "dx")
      refine ⟨fun _ => ?_, fun z => (by cases z)⟩
      refine d_map (gw_name (by decide)) ?_
      (repeat fail "dx")
      refine ⟨by omega, by omega, sz_lt (by omega), fun _ _ => trivial, fun j => .int (placeT j i k), ?_, ?_⟩
      · rintro D' j acc y S2 hj ⟨rfl, rfl⟩
        (repeat fail "dx")
        refine ⟨(j, i, k), rfl, ?_⟩
        rintro y S' ⟨rfl, rfl⟩
        exact .d
      · intro D'
        have hlen : C.length = i := by
          have := congrArg List.length hC
          rw [List.length_map, List.length_take] at this
          have h2 : (treeM k).length = k.toNat := by unfold treeM; rw [List.length_map, List.length_range]
          omega
        refine ⟨_, _, .there upd_mid, by rw [List.length_map]; exact sz_lt (by omega), C ++ [(D', (List.range k.toNat).map fun (j : Nat) => placeT j i k)], ?_, ?_⟩
        · rw [List.map_append, hC, List.take_add_one]
          unfold treeM
          rw [List.getElem?_map, List.getElem?_range hi]
          rfl
        · rw [List.map_append, List.map_append, List.reverse_append]
          have e : vi ((List.range k.toNat).map fun (j : Nat) => placeT j i k) = (List.range k.toNat).map fun (j : Nat) => Va.d (.int (placeT j i k)) := by
            unfold vi
            rw [List.map_map]
            rfl
          show _ = (D', Ce.lst (vi _)) :: _
          rw [e]
          rfl
    · rintro S' ⟨C, hC, rfl⟩
      refine ⟨D, C, rfl, ?_, rfl⟩
      rw [hC, List.take_of_length_le (by unfold treeM; rw [List.length_map, List.length_range]; exact Nat.le_refl _)]

def isTkD : PyData → Bool
  | .int i => decide (i = 2) || decide (i = 4) || decide (i = 8)
  | _ => false
def xs_tree (mg : Str → Option Value) : XSpec PyData := ⟨fun v xs S => xs = [.d v] ∧ isTkD v = false, fun _ _ _ _ => False, fun _ S => XpO mg "InvalidNumber" S⟩
theorem xk_tree {a_is_integer : Addr} {fd_is_integer : FuncData} {a_place_in_tree : Addr} {fd_place_in_tree : FuncData} {a : Addr} {fd : FuncData} (F : Fun K "tree" "tree" s_tree a fd) (c_is_integer : CalG P w K mg base 1 "is_integer" a_is_integer fd_is_integer ["value"] (spD K spec_is_integer)) (c_place_in_tree : CalG P w K mg base 1 "_place_in_tree" a_place_in_tree fd_place_in_tree ["place", "hit", "k"] (spD K spec_place_in_tree)) (T_InvalidNumber : OwC K mg "InvalidNumber" (clsA mg "InvalidNumber")) (m_range : mg "range" = none) : FnG P w K mg base (L2N.CX P w) 2 a fd ["k"] (spX K (xs_tree mg)) := by
  refine fn_X F sc_tree ?len (fun cdv A outer s H E hr hg => ⟨_, (pss_cons (ps_if (PW.pt (pw_or (pt_not (pt_val (gcall c_is_integer.G (hr.mono (by decide)) hg (by rfl) c_is_integer.g c_is_integer.kp c_is_integer.b .nil pass0 (pa_cons (pv 0) pa_nil)))) (pw_or1 (pt_cmpR (kNotIn K) (pv 0) (pe_tup (pa_cons pe_int (pa_cons pe_int (pa_cons pe_int pa_nil)))) rfl)))) (pss_one (L2N.ps_raise rfl (L2N.takes_of rfl rfl rfl rfl) (L2N.pmk_own PySem.F.excBase_ValueError T_InvalidNumber.q T_InvalidNumber.gC T_InvalidNumber.kC (raises_own T_InvalidNumber.bP T_InvalidNumber.tP) (by rfl)))) pss_nil)
    (pss_one (ps_ret (pe_lc (own := [("i", 1)]) (g := (gName 1)) (tt := tYes) rfl sc_tree.nd (pi_range1 (by rfl) m_range (pa_cons (pv 0) pa_nil)) (blkOk_by (N := ["k", "i", "j"]) (sc := (defScope s_tree)) (by decide +kernel)) (fun _ _ _ _ _ => (pg_name (i := 1) sc_tree.nd rfl (Or.inr rfl))) (fun _ _ _ _ _ => pts_nil) (fun _ _ _ _ _ => (pe_lc (own := [("j", 2)]) (g := (gName 2)) (tt := tYes) rfl sc_tree.nd (pi_range1 (by rfl) m_range (pa_cons (pv 0) pa_nil)) (blkOk_by (N := ["k", "i", "j"]) (sc := (relS { kind := PySem.ScopeKind.function, names := [ (PySem.Str.ofString ".0", PySem.NameKind.local), (PySem.Str.ofString "i", PySem.NameKind.cell), (PySem.Str.ofString "range", PySem.NameKind.globalImplicit), (PySem.Str.ofString "k", PySem.NameKind.free)], isGenerator := false, isCoroutine := false, more := [] : PySem.Scope } (defScope s_tree))) (by decide +kernel)) (fun _ _ _ _ _ => (pg_name (i := 2) sc_tree.nd rfl (Or.inl rfl))) (fun _ _ _ _ _ => pts_nil) (fun _ _ _ _ _ => (gcall c_place_in_tree.G (hr.mono (by decide)) hg (by rfl) c_place_in_tree.g c_place_in_tree.kp c_place_in_tree.b .nil pass0 (pa_cons (pv 2) (pa_cons (pv 1) (pa_cons (pv 0) pa_nil))))))))))), ?main⟩)
  · rintro a xs S ⟨rfl, _⟩
    rfl
  · rintro v xs S F0 ⟨rfl, hi⟩ hW
    dsimp only at hi hW ⊢
    refine x_seq (x_if ?_)
    (repeat fail "dx")
    refine ⟨v, ⟨_, rfl, Sees.d v⟩, ?_⟩
    rintro _ S' ⟨rfl, rfl⟩
    refine ⟨_, rfl, fun z => ?_, fun z => ?_⟩
    · exact ⟨fun _ => x_upO hW rfl, fun z => (by cases z)⟩
    obtain ⟨k, rfl⟩ : ∃ k, v = .int k := by
      cases v <;> first | exact ⟨_, rfl⟩ | cases z
    have hk : (decide (k = 2) || decide (k = 4) || decide (k = 8)) = false := hi
    (repeat fail "dx")
    refine ⟨by show 3 ≤ sizeLine; decide, fun T => ?_⟩
    refine r_in (ds := [.int 2, .int 4, .int 8]) (.d _) (.inr (.t List.mem_cons_self (seesAll_d [.int 2, .int 4, .int 8]))) rfl rfl ?_
    have e : ([PyData.int 2, .int 4, .int 8].any fun z => PyData.eqv z (.int k)) = false := by
      simp only [Bool.or_eq_false_iff, decide_eq_false_iff_not] at hk
      obtain ⟨⟨a, b⟩, c⟩ := hk
      simp only [List.any_cons, List.any_nil, eqv_int, Bool.or_false]
      rw [decide_eq_false (show ¬ (2 : Int) = k by omega), decide_eq_false (show ¬ (4 : Int) = k by omega), decide_eq_false (show ¬ (8 : Int) = k by omega)]
      rfl
    refine ⟨_, rfl, fun _ => x_weak (List.sublist_cons_self _ _) (x_upO hW rfl), fun q => ?_⟩
    rw [if_pos rfl, e] at q
    cases q

def spec_raised : Spec (List Int) := ⟨fun t xs S => ∃ x, xs = [x] ∧ Sees S x (li t) ∧ IsT t, fun t S y S' => ∃ (p : Addr) (C : List (Addr × List Int)), y = .r p ∧ C.map (·.2) = raisedM t ∧ S' = (C.map rowC).reverse ++ (p, .lst (C.map rowR)) :: S⟩
theorem ok_raised {a_are_targets : Addr} {fd_are_targets : FuncData} {a_place_raised : Addr} {fd_place_raised : FuncData} {a : Addr} {fd : FuncData} (F : Fun K "raised" "raised" s_raised a fd) (c_are_targets : CalG P w K mg base 2 "_are_targets" a_are_targets fd_are_targets ["value"] (spD K spec_are_targets)) (c_place_raised : CalG P w K mg base 1 "_place_raised" a_place_raised fd_place_raised ["place", "hit", "target"] (spD K spec_place_raised)) (m_len : mg "len" = none) (m_enumerate : mg "enumerate" = none) (m_range : mg "range" = none) : FnG P w K mg base CX0 3 a fd ["targets"] (spD K spec_raised) := by
  refine fn_G F sc_raised ?len (fun cdv A outer s H E hr hg => ⟨_, (pss_cons (ps_if (pt_not (pt_val (gcall c_are_targets.G (hr.mono (by decide)) hg (by rfl) c_are_targets.g c_are_targets.kp c_are_targets.b .nil pass0 (pa_cons (pv 0) pa_nil)))) (pss_one ps_never) pss_nil)
    (pss_cons (ps_set (i := 1) sc_raised.nd rfl (Or.inr rfl) (pe_callB (kLen K) (by rfl) m_len (by decide +kernel) (pa_cons (pv 0) pa_nil)))
    (pss_one (ps_ret (pe_lc (own := [("i", 2), ("target", 3)]) (g := (gTup K 2 (gCons (gName 2) (gCons (gName 3) gNil)))) (tt := tYes) rfl sc_raised.nd (kPiE K (by rfl) m_enumerate (pa_cons (pv 0) pa_nil)) (blkOk_by (N := ["targets", "k", "i", "target", "j"]) (sc := (defScope s_raised)) (by decide +kernel)) (fun _ _ _ _ _ => (kGT K rfl (pgs_cons (pg_name (i := 2) sc_raised.nd rfl (Or.inr rfl)) (pgs_cons (pg_name (i := 3) sc_raised.nd rfl (Or.inr rfl)) pgs_nil)))) (fun _ _ _ _ _ => pts_nil) (fun _ _ _ _ _ => (pe_lc (own := [("j", 4)]) (g := (gName 4)) (tt := tYes) rfl sc_raised.nd (pi_range1 (by rfl) m_range (pa_cons (pv 1) pa_nil)) (blkOk_by (N := ["targets", "k", "i", "target", "j"]) (sc := (relS { kind := PySem.ScopeKind.function, names := [ (PySem.Str.ofString ".0", PySem.NameKind.local), (PySem.Str.ofString "i", PySem.NameKind.cell), (PySem.Str.ofString "target", PySem.NameKind.cell), (PySem.Str.ofString "range", PySem.NameKind.globalImplicit), (PySem.Str.ofString "k", PySem.NameKind.free)], isGenerator := false, isCoroutine := false, more := [] : PySem.Scope } (defScope s_raised))) (by decide +kernel)) (fun _ _ _ _ _ => (pg_name (i := 4) sc_raised.nd rfl (Or.inl rfl))) (fun _ _ _ _ _ => pts_nil) (fun _ _ _ _ _ => (gcall c_place_raised.G (hr.mono (by decide)) hg (by rfl) c_place_raised.g c_place_raised.kp c_place_raised.b .nil pass0 (pa_cons (pv 4) (pa_cons (pv 2) (pa_cons (pv 3) pa_nil)))))))))))), ?main⟩)
  · rintro a xs S ⟨x, rfl, _⟩
    rfl
  · rintro t xs S ⟨x, rfl, hx, hT⟩
    have hl := li_lst hx
    have h1 := hT.l1
    have h2 := hT.l2
    (repeat fail "dx")
    refine ⟨li t, ⟨x, rfl, hx⟩, ?_⟩
    rintro _ S' ⟨rfl, rfl⟩
    rw [tgt_isT hT]
    refine ⟨_, rfl, fun e => (by cases e), fun _ => s_next ?_⟩
    (repeat fail "dx")
    rw [vi_len]
    refine d_lc (gw_tup (gw_cons (by decide) (gw_cons (by decide) gw_nil))) ?_
    (repeat fail "dx")
    refine ⟨_, _, rfl, hl, fun D => ⟨fun i S' => ∃ C : List (Addr × List Int), C.map (·.2) = (raisedM t).take i ∧ S' = (C.map rowC).reverse ++ (D, .lst (C.map rowR)) :: S, ⟨[], rfl, rfl⟩, fun i S' ⟨_, _, e⟩ => (by rw [e]; exact hl.tl.app), ?_, ?_⟩⟩
    · rintro i S' y S2 hi ⟨C, hC, rfl⟩ ⟨T, z, hz, rfl, rfl⟩
      rw [vi_len] at hi
      obtain rfl := vi_get hi hz
      refine g_tup (.r List.mem_cons_self) rfl (gs_cons (g_name (gs_cons (g_name (gs_nil ?_)))))
      (repeat fail "dx")
      refine ⟨fun _ => ?_, fun z => (by cases z)⟩
      refine d_less ?_
      refine d_map (gw_name (by decide)) ?_
      (repeat fail "dx")
      refine ⟨by omega, by omega, sz_lt (by omega), fun _ _ => trivial, fun j => .int (plR j i (t.getD i 0)), ?_, ?_⟩
      · rintro D' j acc y S2 hj ⟨rfl, rfl⟩
        (repeat fail "dx")
        refine ⟨((j : Int), (i : Int), t.getD i 0), rfl, ?_⟩
        rintro y S' ⟨rfl, rfl⟩
        exact .d
      · intro D'
        have hlen : C.length = i := by
          have := congrArg List.length hC
          rw [List.length_map, List.length_take, raised_len] at this
          omega
        refine ⟨(D', .lst (vi (rowM t.length i (t.getD i 0)))) :: ((C.map rowC).reverse ++ (D, .lst (C.map rowR)) :: S), ?_, _, _, .there upd_mid, by rw [List.length_map]; exact sz_lt (by omega), C ++ [(D', rowM t.length i (t.getD i 0))], ?_, ?_⟩
        · rw [Int.toNat_natCast]
          unfold rowM
          rw [← vi_rng]
          exact (List.sublist_cons_self _ _).cons_cons _
        · rw [List.map_append, hC, List.take_add_one]
          unfold raisedM
          rw [List.getElem?_map, List.getElem?_range hi]
          rfl
        · rw [List.map_append, List.map_append, List.reverse_append]
          rfl
    · rintro S' ⟨C, hC, rfl⟩
      refine ⟨D, C, rfl, ?_, rfl⟩
      rw [hC, List.take_of_length_le (by rw [raised_len, vi_len]; exact Nat.le_refl _)]

def xs_raised (mg : Str → Option Value) : XSpec PyData := ⟨fun v xs S => xs = [.d v] ∧ tgtD v = false, fun _ _ _ _ => False, fun _ S => XpO mg "InvalidNumber" S⟩
theorem xk_raised {a_are_targets : Addr} {fd_are_targets : FuncData} {a_place_raised : Addr} {fd_place_raised : FuncData} {a : Addr} {fd : FuncData} (F : Fun K "raised" "raised" s_raised a fd) (c_are_targets : CalG P w K mg base 2 "_are_targets" a_are_targets fd_are_targets ["value"] (spD K spec_are_targets)) (c_place_raised : CalG P w K mg base 1 "_place_raised" a_place_raised fd_place_raised ["place", "hit", "target"] (spD K spec_place_raised)) (T_InvalidNumber : OwC K mg "InvalidNumber" (clsA mg "InvalidNumber")) (m_len : mg "len" = none) (m_enumerate : mg "enumerate" = none) (m_range : mg "range" = none) : FnG P w K mg base (L2N.CX P w) 3 a fd ["targets"] (spX K (xs_raised mg)) := by
  refine fn_X F sc_raised ?len (fun cdv A outer s H E hr hg => ⟨_, (pss_cons (ps_if (pt_not (pt_val (gcall c_are_targets.G (hr.mono (by decide)) hg (by rfl) c_are_targets.g c_are_targets.kp c_are_targets.b .nil pass0 (pa_cons (pv 0) pa_nil)))) (pss_one (L2N.ps_raise rfl (L2N.takes_of rfl rfl rfl rfl) (L2N.pmk_own PySem.F.excBase_ValueError T_InvalidNumber.q T_InvalidNumber.gC T_InvalidNumber.kC (raises_own T_InvalidNumber.bP T_InvalidNumber.tP) (by rfl)))) pss_nil)
    (pss_cons (ps_set (i := 1) sc_raised.nd rfl (Or.inr rfl) (pe_callB (kLen K) (by rfl) m_len (by decide +kernel) (pa_cons (pv 0) pa_nil)))
    (pss_one (ps_ret (pe_lc (own := [("i", 2), ("target", 3)]) (g := (gTup K 2 (gCons (gName 2) (gCons (gName 3) gNil)))) (tt := tYes) rfl sc_raised.nd (kPiE K (by rfl) m_enumerate (pa_cons (pv 0) pa_nil)) (blkOk_by (N := ["targets", "k", "i", "target", "j"]) (sc := (defScope s_raised)) (by decide +kernel)) (fun _ _ _ _ _ => (kGT K rfl (pgs_cons (pg_name (i := 2) sc_raised.nd rfl (Or.inr rfl)) (pgs_cons (pg_name (i := 3) sc_raised.nd rfl (Or.inr rfl)) pgs_nil)))) (fun _ _ _ _ _ => pts_nil) (fun _ _ _ _ _ => (pe_lc (own := [("j", 4)]) (g := (gName 4)) (tt := tYes) rfl sc_raised.nd (pi_range1 (by rfl) m_range (pa_cons (pv 1) pa_nil)) (blkOk_by (N := ["targets", "k", "i", "target", "j"]) (sc := (relS { kind := PySem.ScopeKind.function, names := [ (PySem.Str.ofString ".0", PySem.NameKind.local), (PySem.Str.ofString "i", PySem.NameKind.cell), (PySem.Str.ofString "target", PySem.NameKind.cell), (PySem.Str.ofString "range", PySem.NameKind.globalImplicit), (PySem.Str.ofString "k", PySem.NameKind.free)], isGenerator := false, isCoroutine := false, more := [] : PySem.Scope } (defScope s_raised))) (by decide +kernel)) (fun _ _ _ _ _ => (pg_name (i := 4) sc_raised.nd rfl (Or.inl rfl))) (fun _ _ _ _ _ => pts_nil) (fun _ _ _ _ _ => (gcall c_place_raised.G (hr.mono (by decide)) hg (by rfl) c_place_raised.g c_place_raised.kp c_place_raised.b .nil pass0 (pa_cons (pv 4) (pa_cons (pv 2) (pa_cons (pv 3) pa_nil)))))))))))), ?main⟩)
  · rintro a xs S ⟨rfl, _⟩
    rfl
  · rintro v xs S F0 ⟨rfl, hi⟩ hW
    dsimp only at hi hW ⊢
    refine x_seq (x_if ?_)
    (repeat fail "dx")
    refine ⟨v, ⟨_, rfl, Sees.d v⟩, ?_⟩
    rintro _ S' ⟨rfl, rfl⟩
    rw [hi]
    exact ⟨_, rfl, fun _ => x_upO hW rfl, fun z => (by cases z)⟩

theorem rg_isT {k : Nat} (h1 : 2 ≤ k) (h2 : k ≤ 12) : IsT (rg k) := by
  have hl : (rg (k : Int)).length = k := by rw [rg_len]; omega
  refine ⟨by omega, by omega, fun i hi => ?_⟩
  rw [hl] at hi ⊢
  rw [List.getD_eq_getElem?_getD, rg_get hi]
  show (i : Int) ≤ i ∧ (i : Int) < k
  omega
def specNamed (f : Nat → List Int) : Spec Nat := ⟨fun k xs S => xs = [.d (.int (k : Nat))] ∧ 2 ≤ k ∧ k ≤ 12, fun k S y S' => ∃ (p : Addr) (C : List (Addr × List Int)), y = .r p ∧ C.map (·.2) = raisedM (f k) ∧ S' = (C.map rowC).reverse ++ (p, .lst (C.map rowR)) :: S⟩
def firstT (k : Nat) : List Int := rg k
def lastT (k : Nat) : List Int := List.replicate k ((k : Int) - 1)
def climbT (k : Nat) : List Int := (List.range k).map fun (i : Nat) => if (k : Int) - 1 < (i : Int) + 1 then (k : Int) - 1 else (i : Int) + 1
def spec_first_in : Spec Nat := specNamed firstT
theorem last_isT {k : Nat} (h1 : 2 ≤ k) (h2 : k ≤ 12) : IsT (lastT k) := by
  have hl : (lastT k).length = k := List.length_replicate
  refine ⟨by omega, by omega, fun i hi => ?_⟩
  rw [hl] at hi ⊢
  rw [getD_lt (by rw [hl]; exact hi)]
  unfold lastT
  rw [List.getElem_replicate]
  omega
theorem climb_isT {k : Nat} (h1 : 2 ≤ k) (h2 : k ≤ 12) : IsT (climbT k) := by
  have hl : (climbT k).length = k := by unfold climbT; rw [List.length_map, List.length_range]
  refine ⟨by omega, by omega, fun i hi => ?_⟩
  rw [hl] at hi ⊢
  rw [getD_lt (by rw [hl]; exact hi)]
  unfold climbT
  rw [List.getElem_map, List.getElem_range]
  split <;> omega
theorem named_less {C : List (Addr × List Int)} {q : Addr × Ce} {p : Addr × Ce} {S : Sto} : ((C.map rowC).reverse ++ p :: S).Sublist ((C.map rowC).reverse ++ p :: q :: S) := (List.Sublist.refl _).append ((List.sublist_cons_self _ _).cons_cons _)
theorem named_S {g : Nat → List Int} : ∀ (k : Nat) S y S', (specNamed g).post k S y S' → ∃ C, S' = C ++ S ∧ Sees C y (lli (raisedM (g k))) := fun k S y S' ⟨p, D, e, eD, e2⟩ => by
  rw [e, e2, ← eD]
  refine ⟨(D.map rowC).reverse ++ [(p, .lst (D.map rowR))], by rw [List.append_assoc]; rfl, sees_own2 (List.mem_append_right _ (.head _)) fun c hc => List.mem_append_left _ (List.mem_reverse.mpr (List.mem_map_of_mem hc))⟩
theorem raised_rule {t : List Int} {n : Nat} (h : IsT t) (hl : t.length = n) : RuleOk (raisedM t) n := by
  have h1 := h.l1
  have h2 := h.l2
  refine ⟨by omega, by omega, by rw [raised_len, hl], fun r hr => ?_⟩
  unfold raisedM at hr
  obtain ⟨i, hi, rfl⟩ := List.mem_map.mp hr
  obtain ⟨a, b⟩ := h.at_ i (List.mem_range.mp hi)
  exact ⟨rowM_isP (by omega) a b, by rw [rowM_len]; omega⟩
theorem first_in_S : ∀ (k : Nat) S y S', spec_first_in.post k S y S' → ∃ C, S' = C ++ S ∧ Sees C y (lli (raisedM (firstT k))) := named_S
-- CALL S first_in_S
theorem ok_first_in {a_check_k : Addr} {fd_check_k : FuncData} {a_raised : Addr} {fd_raised : FuncData} {a : Addr} {fd : FuncData} (F : Fun K "first_in" "first_in" s_first_in a fd) (c_check_k : CalG P w K mg base 2 "_check_k" a_check_k fd_check_k ["k"] (spD K spec_check_k)) (c_raised : CalG P w K mg base 3 "raised" a_raised fd_raised ["targets"] (spD K spec_raised)) (m_list : mg "list" = none) (m_range : mg "range" = none) : FnG P w K mg base CX0 4 a fd ["k"] (spD K spec_first_in) := by
  refine fn_G F sc_first_in ?len (fun cdv A outer s H E hr hg => ⟨_, (pss_cons (ps_expr (gcall c_check_k.G (hr.mono (by decide)) hg (by rfl) c_check_k.g c_check_k.kp c_check_k.b .nil pass0 (pa_cons (pv 0) pa_nil)))
    (pss_one (ps_ret (gcall c_raised.G (hr.mono (by decide)) hg (by rfl) c_raised.g c_raised.kp c_raised.b .nil pass0 (pa_cons (pe_listRg rfl (by rfl) m_list (prg_1 (by rfl) m_range (pv 0))) pa_nil))))), ?main⟩)
  · rintro a xs S ⟨rfl, _⟩
    rfl
  · rintro k xs S ⟨rfl, h1, h2⟩
    (repeat fail "dx")
    refine ⟨k, ⟨rfl, by omega, by omega⟩, ?_⟩
    rintro _ S' ⟨rfl, rfl⟩
    refine s_ret (d_less ?_)
    (repeat fail "dx")
    refine ⟨RgOk.of_le (by omega) (by omega) (by omega) (by omega), fun r => ?_⟩
    rw [rgA_vi]
    (repeat fail "dx")
    refine ⟨firstT k, ⟨_, rfl, sees_vi (.r List.mem_cons_self), rg_isT h1 h2⟩, ?_⟩
    rintro _ S' ⟨p, C, rfl, hC, rfl⟩
    exact ⟨_, named_less, p, C, rfl, hC, rfl⟩
local macro_rules | `(tactic| fail "vx") => `(tactic| with_reducible refine d_callS first_in_S ?_)

def xs_first_in (mg : Str → Option Value) : XSpec PyData := ⟨fun v xs S => xs = [.d v] ∧ isKD v = false, fun _ _ _ _ => False, fun _ S => XpO mg "InvalidNumber" S⟩
theorem xk_first_in {a_check_k : Addr} {fd_check_k : FuncData} {a_raised : Addr} {fd_raised : FuncData} {a : Addr} {fd : FuncData} (F : Fun K "first_in" "first_in" s_first_in a fd) (y_check_k : CalX P w K mg base 2 "_check_k" a_check_k fd_check_k ["k"] (spM K spec_check_k (xs_check_k mg))) (y_raised : CalX P w K mg base 3 "raised" a_raised fd_raised ["targets"] (spM K spec_raised (xs_raised mg))) (m_list : mg "list" = none) (m_range : mg "range" = none) : FnG P w K mg base (L2N.CX P w) 4 a fd ["k"] (spX K (xs_first_in mg)) := by
  refine fn_X F sc_first_in ?len (fun cdv A outer s H E hr hg => ⟨_, (pss_cons (ps_expr (gcallS y_check_k.G (hr.mono (by decide)) hg (by rfl) y_check_k.g y_check_k.kp y_check_k.b (fun σ => L2N.passAt (L2N.takes_of rfl rfl rfl rfl) σ) (pa_cons (pv 0) pa_nil)))
    (pss_one (ps_ret (gcallS y_raised.G (hr.mono (by decide)) hg (by rfl) y_raised.g y_raised.kp y_raised.b (fun σ => L2N.passAt (L2N.takes_of rfl rfl rfl rfl) σ) (pa_cons (pe_listRg rfl (by rfl) m_list (prg_1 (by rfl) m_range (pv 0))) pa_nil))))), ?main⟩)
  · rintro a xs S ⟨rfl, _⟩
    rfl
  · rintro v xs S F0 ⟨rfl, hi⟩ hW
    refine x_seq (x_drop (e_callM hW ?_))
    (repeat fail "dx")
    exact .inr ⟨v, ⟨rfl, hi⟩, fun _ _ z => z.elim, fun _ _ _ z => z⟩

def spec_last_used : Spec Nat := specNamed lastT
theorem last_used_S : ∀ (k : Nat) S y S', spec_last_used.post k S y S' → ∃ C, S' = C ++ S ∧ Sees C y (lli (raisedM (lastT k))) := named_S
-- CALL S last_used_S
theorem ok_last_used {a_check_k : Addr} {fd_check_k : FuncData} {a_raised : Addr} {fd_raised : FuncData} {a : Addr} {fd : FuncData} (F : Fun K "last_used" "last_used" s_last_used a fd) (c_check_k : CalG P w K mg base 2 "_check_k" a_check_k fd_check_k ["k"] (spD K spec_check_k)) (c_raised : CalG P w K mg base 3 "raised" a_raised fd_raised ["targets"] (spD K spec_raised)) (m_range : mg "range" = none) : FnG P w K mg base CX0 4 a fd ["k"] (spD K spec_last_used) := by
  refine fn_G F sc_last_used ?len (fun cdv A outer s H E hr hg => ⟨_, (pss_cons (ps_expr (gcall c_check_k.G (hr.mono (by decide)) hg (by rfl) c_check_k.g c_check_k.kp c_check_k.b .nil pass0 (pa_cons (pv 0) pa_nil)))
    (pss_one (ps_ret (gcall c_raised.G (hr.mono (by decide)) hg (by rfl) c_raised.g c_raised.kp c_raised.b .nil pass0 (pa_cons (pe_lc (own := [("_", 1)]) (g := (gName 1)) (tt := tYes) rfl sc_last_used.nd (pi_range1 (by rfl) m_range (pa_cons (pv 0) pa_nil)) (blkOk_by (N := ["k", "_"]) (sc := (defScope s_last_used)) (by decide +kernel)) (fun _ _ _ _ _ => (pg_name (i := 1) sc_last_used.nd rfl (Or.inl rfl))) (fun _ _ _ _ _ => pts_nil) (fun _ _ _ _ _ => (pe_op op_sub (pv 0) pe_int))) pa_nil))))), ?main⟩)
  · rintro a xs S ⟨rfl, _⟩
    rfl
  · rintro k xs S ⟨rfl, h1, h2⟩
    (repeat fail "dx")
    refine ⟨k, ⟨rfl, by omega, by omega⟩, ?_⟩
    rintro _ S' ⟨rfl, rfl⟩
    refine s_ret (d_less ?_)
    refine d_call (d_acons (d_map (gw_name (by decide)) ?_))
    (repeat fail "dx")
    refine ⟨by omega, by omega, sz_lt (by omega), fun _ _ => trivial, fun _ => .int ((k : Int) - 1), ?_, ?_⟩
    · rintro D j acc y S2 hj ⟨rfl, rfl⟩
      (repeat fail "dx")
      exact .d
    intro r
    have e : (List.range (k : Int).toNat).map (fun _ => Va.d (.int ((k : Int) - 1))) = vi (lastT k) := by
      rw [vi_rng (fun _ => (k : Int) - 1), Int.toNat_natCast]
      unfold lastT
      rw [List.map_const', List.length_range]
    rw [e]
    (repeat fail "dx")
    refine ⟨lastT k, ⟨_, rfl, sees_vi (.r List.mem_cons_self), last_isT h1 h2⟩, ?_⟩
    rintro _ S' ⟨p, C, rfl, hC, rfl⟩
    exact ⟨_, named_less, p, C, rfl, hC, rfl⟩
local macro_rules | `(tactic| fail "vx") => `(tactic| with_reducible refine d_callS last_used_S ?_)

def xs_last_used (mg : Str → Option Value) : XSpec PyData := ⟨fun v xs S => xs = [.d v] ∧ isKD v = false, fun _ _ _ _ => False, fun _ S => XpO mg "InvalidNumber" S⟩
theorem xk_last_used {a_check_k : Addr} {fd_check_k : FuncData} {a_raised : Addr} {fd_raised : FuncData} {a : Addr} {fd : FuncData} (F : Fun K "last_used" "last_used" s_last_used a fd) (y_check_k : CalX P w K mg base 2 "_check_k" a_check_k fd_check_k ["k"] (spM K spec_check_k (xs_check_k mg))) (y_raised : CalX P w K mg base 3 "raised" a_raised fd_raised ["targets"] (spM K spec_raised (xs_raised mg))) (m_range : mg "range" = none) : FnG P w K mg base (L2N.CX P w) 4 a fd ["k"] (spX K (xs_last_used mg)) := by
  refine fn_X F sc_last_used ?len (fun cdv A outer s H E hr hg => ⟨_, (pss_cons (ps_expr (gcallS y_check_k.G (hr.mono (by decide)) hg (by rfl) y_check_k.g y_check_k.kp y_check_k.b (fun σ => L2N.passAt (L2N.takes_of rfl rfl rfl rfl) σ) (pa_cons (pv 0) pa_nil)))
    (pss_one (ps_ret (gcallS y_raised.G (hr.mono (by decide)) hg (by rfl) y_raised.g y_raised.kp y_raised.b (fun σ => L2N.passAt (L2N.takes_of rfl rfl rfl rfl) σ) (pa_cons (pe_lc (own := [("_", 1)]) (g := (gName 1)) (tt := tYes) rfl sc_last_used.nd (pi_range1 (by rfl) m_range (pa_cons (pv 0) pa_nil)) (blkOk_by (N := ["k", "_"]) (sc := (defScope s_last_used)) (by decide +kernel)) (fun _ _ _ _ _ => (pg_name (i := 1) sc_last_used.nd rfl (Or.inl rfl))) (fun _ _ _ _ _ => pts_nil) (fun _ _ _ _ _ => (pe_op op_sub (pv 0) pe_int))) pa_nil))))), ?main⟩)
  · rintro a xs S ⟨rfl, _⟩
    rfl
  · rintro v xs S F0 ⟨rfl, hi⟩ hW
    refine x_seq (x_drop (e_callM hW ?_))
    (repeat fail "dx")
    exact .inr ⟨v, ⟨rfl, hi⟩, fun _ _ z => z.elim, fun _ _ _ z => z⟩

def spec_climbing : Spec Nat := specNamed climbT
theorem climbing_S : ∀ (k : Nat) S y S', spec_climbing.post k S y S' → ∃ C, S' = C ++ S ∧ Sees C y (lli (raisedM (climbT k))) := named_S
-- CALL S climbing_S
theorem ok_climbing {a_check_k : Addr} {fd_check_k : FuncData} {a_raised : Addr} {fd_raised : FuncData} {a : Addr} {fd : FuncData} (F : Fun K "climbing" "climbing" s_climbing a fd) (c_check_k : CalG P w K mg base 2 "_check_k" a_check_k fd_check_k ["k"] (spD K spec_check_k)) (c_raised : CalG P w K mg base 3 "raised" a_raised fd_raised ["targets"] (spD K spec_raised)) (m_range : mg "range" = none) (m_min : mg "min" = none) : FnG P w K mg base CX0 4 a fd ["k"] (spD K spec_climbing) := by
  refine fn_G F sc_climbing ?len (fun cdv A outer s H E hr hg => ⟨_, (pss_cons (ps_expr (gcall c_check_k.G (hr.mono (by decide)) hg (by rfl) c_check_k.g c_check_k.kp c_check_k.b .nil pass0 (pa_cons (pv 0) pa_nil)))
    (pss_one (ps_ret (gcall c_raised.G (hr.mono (by decide)) hg (by rfl) c_raised.g c_raised.kp c_raised.b .nil pass0 (pa_cons (pe_lc (own := [("place", 1)]) (g := (gName 1)) (tt := tYes) rfl sc_climbing.nd (pi_range1 (by rfl) m_range (pa_cons (pv 0) pa_nil)) (blkOk_by (N := ["k", "place"]) (sc := (defScope s_climbing)) (by decide +kernel)) (fun _ _ _ _ _ => (pg_name (i := 1) sc_climbing.nd rfl (Or.inl rfl))) (fun _ _ _ _ _ => pts_nil) (fun _ _ _ _ _ => (pe_callB (c_min2 rfl) (by rfl) m_min (by decide +kernel) (pa_cons (pe_op op_add (pv 1) pe_int) (pa_cons (pe_op op_sub (pv 0) pe_int) pa_nil))))) pa_nil))))), ?main⟩)
  · rintro a xs S ⟨rfl, _⟩
    rfl
  · rintro k xs S ⟨rfl, h1, h2⟩
    (repeat fail "dx")
    refine ⟨k, ⟨rfl, by omega, by omega⟩, ?_⟩
    rintro _ S' ⟨rfl, rfl⟩
    refine s_ret (d_less ?_)
    refine d_call (d_acons (d_map (gw_name (by decide)) ?_))
    (repeat fail "dx")
    refine ⟨by omega, by omega, sz_lt (by omega), fun _ _ => trivial, fun (i : Nat) => .int (if (k : Int) - 1 < (i : Int) + 1 then (k : Int) - 1 else (i : Int) + 1), ?_, ?_⟩
    · rintro D j acc y S2 hj ⟨rfl, rfl⟩
      (repeat fail "dx")
      exact .d
    intro r
    rw [vi_rng (fun (i : Nat) => if (k : Int) - 1 < (i : Int) + 1 then (k : Int) - 1 else (i : Int) + 1), Int.toNat_natCast]
    (repeat fail "dx")
    refine ⟨climbT k, ⟨_, rfl, sees_vi (.r List.mem_cons_self), climb_isT h1 h2⟩, ?_⟩
    rintro _ S' ⟨p, C, rfl, hC, rfl⟩
    exact ⟨_, named_less, p, C, rfl, hC, rfl⟩
local macro_rules | `(tactic| fail "vx") => `(tactic| with_reducible refine d_callS climbing_S ?_)

def xs_climbing (mg : Str → Option Value) : XSpec PyData := ⟨fun v xs S => xs = [.d v] ∧ isKD v = false, fun _ _ _ _ => False, fun _ S => XpO mg "InvalidNumber" S⟩
theorem xk_climbing {a_check_k : Addr} {fd_check_k : FuncData} {a_raised : Addr} {fd_raised : FuncData} {a : Addr} {fd : FuncData} (F : Fun K "climbing" "climbing" s_climbing a fd) (y_check_k : CalX P w K mg base 2 "_check_k" a_check_k fd_check_k ["k"] (spM K spec_check_k (xs_check_k mg))) (y_raised : CalX P w K mg base 3 "raised" a_raised fd_raised ["targets"] (spM K spec_raised (xs_raised mg))) (m_range : mg "range" = none) (m_min : mg "min" = none) : FnG P w K mg base (L2N.CX P w) 4 a fd ["k"] (spX K (xs_climbing mg)) := by
  refine fn_X F sc_climbing ?len (fun cdv A outer s H E hr hg => ⟨_, (pss_cons (ps_expr (gcallS y_check_k.G (hr.mono (by decide)) hg (by rfl) y_check_k.g y_check_k.kp y_check_k.b (fun σ => L2N.passAt (L2N.takes_of rfl rfl rfl rfl) σ) (pa_cons (pv 0) pa_nil)))
    (pss_one (ps_ret (gcallS y_raised.G (hr.mono (by decide)) hg (by rfl) y_raised.g y_raised.kp y_raised.b (fun σ => L2N.passAt (L2N.takes_of rfl rfl rfl rfl) σ) (pa_cons (pe_lc (own := [("place", 1)]) (g := (gName 1)) (tt := tYes) rfl sc_climbing.nd (pi_range1 (by rfl) m_range (pa_cons (pv 0) pa_nil)) (blkOk_by (N := ["k", "place"]) (sc := (defScope s_climbing)) (by decide +kernel)) (fun _ _ _ _ _ => (pg_name (i := 1) sc_climbing.nd rfl (Or.inl rfl))) (fun _ _ _ _ _ => pts_nil) (fun _ _ _ _ _ => (pe_callB (c_min2 rfl) (by rfl) m_min (by decide +kernel) (pa_cons (pe_op op_add (pv 1) pe_int) (pa_cons (pe_op op_sub (pv 0) pe_int) pa_nil))))) pa_nil))))), ?main⟩)
  · rintro a xs S ⟨rfl, _⟩
    rfl
  · rintro v xs S F0 ⟨rfl, hi⟩ hW
    refine x_seq (x_drop (e_callM hW ?_))
    (repeat fail "dx")
    exact .inr ⟨v, ⟨rfl, hi⟩, fun _ _ z => z.elim, fun _ _ _ z => z⟩

/-- what a value is for a way: fine or not -/
def fineW (w : Nat) (v : PyData) : Bool := if w < 3 then isKD v else if w = 3 then isTkD v else tgtD v
theorem kd_nat {v : PyData} (h : isKD v = true) : ∃ k : Nat, v = .int (k : Nat) ∧ 2 ≤ k ∧ k ≤ 12 := by
  cases v with
  | int i =>
    have h' : (decide (2 ≤ i) && decide (i ≤ 12)) = true := h
    rw [Bool.and_eq_true, decide_eq_true_eq, decide_eq_true_eq] at h'
    exact ⟨i.toNat, by rw [Int.toNat_of_nonneg (by omega)], by omega, by omega⟩
  | _ => cases h
theorem tk_int {v : PyData} (h : isTkD v = true) : ∃ k : Int, v = .int k ∧ (k = 2 ∨ k = 4 ∨ k = 8) := by
  cases v with
  | int i =>
    have h' : (decide (i = 2) || decide (i = 4) || decide (i = 8)) = true := h
    simp only [Bool.or_eq_true, decide_eq_true_eq] at h'
    exact ⟨i, rfl, by omega⟩
  | _ => cases h
def ansT (b : Bool) : PyData := if b = true then .tuple [.str "fine"] else .tuple [.str "number"]
def spec_law_told : Spec (Nat × PyData) := ⟨fun a xs S => xs = [.d (.int (a.1 : Nat)), .d a.2] ∧ a.1 < 5 ∧ (a.1 = 4 → tgtD a.2 = true → ∃ t, a.2 = li t ∧ IsT t), fun a S y S' => y = .d (ansT (fineW a.1 a.2)) ∧ S' = S⟩
theorem ok_law_told {a_first_in : Addr} {fd_first_in : FuncData} {a_last_used : Addr} {fd_last_used : FuncData} {a_climbing : Addr} {fd_climbing : FuncData} {a_tree : Addr} {fd_tree : FuncData} {a_raised : Addr} {fd_raised : FuncData} {a_law_word_of : Addr} {fd_law_word_of : FuncData} {a : Addr} {fd : FuncData} (F : Fun K "_law_told" "_law_told" s_law_told a fd) (y_first_in : CalX P w K mg base 4 "first_in" a_first_in fd_first_in ["k"] (spM K spec_first_in (xs_first_in mg))) (y_last_used : CalX P w K mg base 4 "last_used" a_last_used fd_last_used ["k"] (spM K spec_last_used (xs_last_used mg))) (y_climbing : CalX P w K mg base 4 "climbing" a_climbing fd_climbing ["k"] (spM K spec_climbing (xs_climbing mg))) (y_tree : CalX P w K mg base 2 "tree" a_tree fd_tree ["k"] (spM K spec_tree (xs_tree mg))) (y_raised : CalX P w K mg base 3 "raised" a_raised fd_raised ["targets"] (spM K spec_raised (xs_raised mg))) (e_law_word_of : CalE P w K mg base 1 "_law_word_of" a_law_word_of fd_law_word_of ["_law_e"] (spE K (es_law_word_of mg))) (x_GoesError : mg "GoesError" = some (.ref (clsA mg "GoesError"))) (ek : ErrK K mg RSl TSl FSl) : FnG P w K mg base CX0 5 a fd ["_law_way", "_law_given"] (spD K spec_law_told) := by
  refine fn_G F sc_law_told ?len (fun cdv A outer s H E hr hg => ⟨_, (pss_cons (ps_try0 K (i := 2) rfl rfl sc_law_told.nd rfl rfl ⟨by rfl, by decide, .inl x_GoesError⟩ (fun W pn xe tk po => (pss_one (ps_if (pt_cmpR (kEqD K hr.units) (pv 0) pe_int (nomark _)) (pss_one (ps_expr (gcallS y_first_in.G (hr.mono (by decide)) hg (by rfl) y_first_in.g y_first_in.kp y_first_in.b (fun σ => L2N.passAt tk σ) (pa_cons (pv 1) pa_nil)))) (pss_one (ps_if (pt_cmpR (kEqD K hr.units) (pv 0) pe_int (nomark _)) (pss_one (ps_expr (gcallS y_last_used.G (hr.mono (by decide)) hg (by rfl) y_last_used.g y_last_used.kp y_last_used.b (fun σ => L2N.passAt tk σ) (pa_cons (pv 1) pa_nil)))) (pss_one (ps_if (pt_cmpR (kEqD K hr.units) (pv 0) pe_int (nomark _)) (pss_one (ps_expr (gcallS y_climbing.G (hr.mono (by decide)) hg (by rfl) y_climbing.g y_climbing.kp y_climbing.b (fun σ => L2N.passAt tk σ) (pa_cons (pv 1) pa_nil)))) (pss_one (ps_if (pt_cmpR (kEqD K hr.units) (pv 0) pe_int (nomark _)) (pss_one (ps_expr (gcallS y_tree.G (hr.mono (by decide)) hg (by rfl) y_tree.g y_tree.kp y_tree.b (fun σ => L2N.passAt tk σ) (pa_cons (pv 1) pa_nil)))) (pss_one (ps_expr (gcallS y_raised.G (hr.mono (by decide)) hg (by rfl) y_raised.g y_raised.kp y_raised.b (fun σ => L2N.passAt tk σ) (pa_cons (pv 1) pa_nil))))))))))))) (fun ea oe cls ed pn hz hf => (pss_one (ps_ret (gcallE e_law_word_of.G List.mem_cons_self rfl hz hf (roomH_mark (hr.mono (by decide))) (gd_mark hg) (by rfl) e_law_word_of.g e_law_word_of.kp e_law_word_of.b (pa_cons (pv 2) pa_nil))))))
    (pss_one (ps_ret (pe_tup (pa_cons pe_str pa_nil))))), ?main⟩)
  · rintro a xs S ⟨rfl, _⟩
    rfl
  · rintro ⟨t, v⟩ xs S ⟨rfl, ht, h4⟩
    dsimp only at ht h4 ⊢
    have hts : t = 0 ∨ t = 1 ∨ t = 2 ∨ t = 3 ∨ t = 4 := by omega
    fail "vstart"
    (repeat fail "vx")
    refine s_try0 (fun C d Γ' S' => XpO mg "InvalidNumber" S C d S' ∧ fineW t v = false ∧ ∃ e, Γ' = [some (.d (.int (t : Nat))), some (.d v), e]) ?_ ?_
    · rintro C d Γ' S' ⟨⟨rfl, rfl, rfl⟩, hv, e, rfl⟩
      refine ⟨ek.exm "InvalidNumber" (by decide), fun a => ?_⟩
      refine s_ret (d_callE ?_)
      (repeat fail "vx")
      refine ⟨(), ⟨rfl, rfl, rfl⟩, ?_⟩
      rintro _ _ ⟨rfl, rfl⟩
      exact ⟨by show Va.d _ = Va.d (ansT (fineW t v)); rw [hv]; rfl, rfl⟩
    · intro F0 W hW
      rcases hts with rfl | rfl | rfl | rfl | rfl
      · refine x_if ?_
        (repeat fail "vx")
        refine ⟨fun _ => ?_, fun z => absurd z (by decide)⟩
        refine x_drop (e_callM hW ?_)
        (repeat fail "vx")
        have hfw : fineW 0 v = isKD v := rfl
        cases hk : isKD v with
        | false => exact .inr ⟨v, ⟨rfl, hk⟩, fun _ _ z => z.elim, fun _ _ _ z => ⟨z, hfw.trans hk, _, rfl⟩⟩
        | true =>
          obtain ⟨k, rfl, h1, h2⟩ := kd_nat hk
          refine .inl ⟨k, ⟨rfl, h1, h2⟩, ?_⟩
          rintro y S' ⟨q, C, rfl, _, rfl⟩
          refine s_weak ((List.sublist_cons_self _ _).trans (List.sublist_append_right _ _)) ?_
          (repeat fail "vx")
          exact ⟨by show Va.d _ = Va.d (ansT (fineW 0 _)); rw [hfw, hk]; rfl, rfl⟩
      · refine x_if ?_
        (repeat fail "vx")
        refine ⟨fun z => absurd z (by decide), fun _ => ?_⟩
        refine x_if ?_
        (repeat fail "vx")
        refine ⟨fun _ => ?_, fun z => absurd z (by decide)⟩
        refine x_drop (e_callM hW ?_)
        (repeat fail "vx")
        have hfw : fineW 1 v = isKD v := rfl
        cases hk : isKD v with
        | false => exact .inr ⟨v, ⟨rfl, hk⟩, fun _ _ z => z.elim, fun _ _ _ z => ⟨z, hfw.trans hk, _, rfl⟩⟩
        | true =>
          obtain ⟨k, rfl, h1, h2⟩ := kd_nat hk
          refine .inl ⟨k, ⟨rfl, h1, h2⟩, ?_⟩
          rintro y S' ⟨q, C, rfl, _, rfl⟩
          refine s_weak ((List.sublist_cons_self _ _).trans (List.sublist_append_right _ _)) ?_
          (repeat fail "vx")
          exact ⟨by show Va.d _ = Va.d (ansT (fineW 1 _)); rw [hfw, hk]; rfl, rfl⟩
      · refine x_if ?_
        (repeat fail "vx")
        refine ⟨fun z => absurd z (by decide), fun _ => ?_⟩
        refine x_if ?_
        (repeat fail "vx")
        refine ⟨fun z => absurd z (by decide), fun _ => ?_⟩
        refine x_if ?_
        (repeat fail "vx")
        refine ⟨fun _ => ?_, fun z => absurd z (by decide)⟩
        refine x_drop (e_callM hW ?_)
        (repeat fail "vx")
        have hfw : fineW 2 v = isKD v := rfl
        cases hk : isKD v with
        | false => exact .inr ⟨v, ⟨rfl, hk⟩, fun _ _ z => z.elim, fun _ _ _ z => ⟨z, hfw.trans hk, _, rfl⟩⟩
        | true =>
          obtain ⟨k, rfl, h1, h2⟩ := kd_nat hk
          refine .inl ⟨k, ⟨rfl, h1, h2⟩, ?_⟩
          rintro y S' ⟨q, C, rfl, _, rfl⟩
          refine s_weak ((List.sublist_cons_self _ _).trans (List.sublist_append_right _ _)) ?_
          (repeat fail "vx")
          exact ⟨by show Va.d _ = Va.d (ansT (fineW 2 _)); rw [hfw, hk]; rfl, rfl⟩
      · refine x_if ?_
        (repeat fail "vx")
        refine ⟨fun z => absurd z (by decide), fun _ => ?_⟩
        refine x_if ?_
        (repeat fail "vx")
        refine ⟨fun z => absurd z (by decide), fun _ => ?_⟩
        refine x_if ?_
        (repeat fail "vx")
        refine ⟨fun z => absurd z (by decide), fun _ => ?_⟩
        refine x_if ?_
        (repeat fail "vx")
        refine ⟨fun _ => ?_, fun z => absurd z (by decide)⟩
        refine x_drop (e_callM hW ?_)
        (repeat fail "vx")
        have hfw : fineW 3 v = isTkD v := rfl
        cases hk : isTkD v with
        | false => exact .inr ⟨v, ⟨rfl, hk⟩, fun _ _ z => z.elim, fun _ _ _ z => ⟨z, hfw.trans hk, _, rfl⟩⟩
        | true =>
          obtain ⟨k, rfl, h1⟩ := tk_int hk
          refine .inl ⟨k, ⟨rfl, h1⟩, ?_⟩
          rintro y S' ⟨q, C, rfl, _, rfl⟩
          refine s_weak ((List.sublist_cons_self _ _).trans (List.sublist_append_right _ _)) ?_
          (repeat fail "vx")
          exact ⟨by show Va.d _ = Va.d (ansT (fineW 3 _)); rw [hfw, hk]; rfl, rfl⟩
      · refine x_if ?_
        (repeat fail "vx")
        refine ⟨fun z => absurd z (by decide), fun _ => ?_⟩
        refine x_if ?_
        (repeat fail "vx")
        refine ⟨fun z => absurd z (by decide), fun _ => ?_⟩
        refine x_if ?_
        (repeat fail "vx")
        refine ⟨fun z => absurd z (by decide), fun _ => ?_⟩
        refine x_if ?_
        (repeat fail "vx")
        refine ⟨fun z => absurd z (by decide), fun _ => ?_⟩
        refine x_drop (e_callM hW ?_)
        (repeat fail "vx")
        have hfw : fineW 4 v = tgtD v := rfl
        cases hk : tgtD v with
        | false => exact .inr ⟨v, ⟨rfl, hk⟩, fun _ _ z => z.elim, fun _ _ _ z => ⟨z, hfw.trans hk, _, rfl⟩⟩
        | true =>
          obtain ⟨u, rfl, hu⟩ := h4 rfl hk
          refine .inl ⟨u, ⟨_, rfl, Sees.d _, hu⟩, ?_⟩
          rintro y S' ⟨q, C, rfl, _, rfl⟩
          refine s_weak ((List.sublist_cons_self _ _).trans (List.sublist_append_right _ _)) ?_
          (repeat fail "vx")
          exact ⟨by show Va.d _ = Va.d (ansT (fineW 4 _)); rw [hfw, hk]; rfl, rfl⟩

/-- shown, its leaves of at most 32 letters -/
def ShL (B k : Nat) (d : PyData) : Prop := (PyData.strOk d.shown = true ∧ d.showable = true ∧ d.hasDict = false) ∧ d.leavesShort 32 = true ∧ d.bulk ≤ B ∧ d.depth ≤ k
theorem shl_all {B k : Nat} : ∀ ds : List PyData, (∀ d ∈ ds, ShL B k d) → (∀ t ∈ ds.map PyData.shown, PyData.strOk t = true) ∧ PyData.showableAll ds = true ∧ PyData.hasDictAll ds = false ∧ PyData.leavesShortAll 32 ds = true ∧ PyData.bulkAll ds ≤ ds.length * (B + 1) ∧ PyData.depthAll ds ≤ k := by
  intro ds
  induction ds with
  | nil => exact fun _ => ⟨fun t h => (by cases h), by simp [PyData.showableAll], by simp [PyData.hasDictAll], by simp [PyData.leavesShortAll], by simp [PyData.bulkAll], by simp [PyData.depthAll]⟩
  | cons d ds ih2 =>
    intro h
    obtain ⟨⟨a1, a2, a3⟩, a4, a5, a6⟩ := h d (.head _)
    obtain ⟨b1, b2, b3, b4, b5, b6⟩ := ih2 fun x hx => h x (.tail _ hx)
    refine ⟨fun t ht => ?_, by rw [PyData.showableAll, a2, b2]; rfl, by rw [PyData.hasDictAll, a3, b3]; rfl, by rw [PyData.leavesShortAll, a4, b4]; rfl, ?_, by rw [PyData.depthAll]; omega⟩
    · rw [List.map_cons] at ht
      rcases List.mem_cons.mp ht with rfl | ht
      · exact a1
      · exact b1 t ht
    · rw [PyData.bulkAll, List.length_cons, Nat.succ_mul]
      omega
theorem shl_list {B k n : Nat} {ds : List PyData} (h : ∀ d ∈ ds, ShL B k d) (hl : ds.length ≤ n) : ShL (1 + n * (B + 1)) (k + 1) (.list ds) := by
  obtain ⟨b1, b2, b3, b4, b5, b6⟩ := shl_all ds h
  have := Nat.mul_le_mul_right (B + 1) hl
  refine ⟨⟨?_, by rw [PyData.showable]; exact b2, by rw [PyData.hasDict]; exact b3⟩, by rw [PyData.leavesShort]; exact b4, by rw [PyData.bulk]; omega, by rw [PyData.depth]; omega⟩
  rw [PyData.shown, shownAll_eq_map]
  exact listText_ok b1
theorem ShL.up {B B' k k' : Nat} {d : PyData} (h : ShL B k d) (e : B ≤ B') (e2 : k ≤ k') : ShL B' k' d := ⟨h.1, h.2.1, by have := h.2.2.1; omega, by have := h.2.2.2; omega⟩
theorem r_reprL {K : PySem.W.Frag} {S : Sto} {Q : QE} {x : Va} {B k : Nat} {d : PyData} (h : ShL B k d) (hx : Sees S x d) (hB : B ≤ 100000) (hk : k ≤ 60) (q : Q (.d (.str d.shown)) S) : dRL K (rReprX K) [x] S Q := by
  have c : sizeLine = 2 ^ 24 := rfl
  obtain ⟨⟨a1, a2, a3⟩, a4, a5, a6⟩ := h
  have e := PyData.shown_le_bulk 32 (by decide) d a4
  exact r_reprX hx (.inl a3) a2 (by omega) (by omega) q
theorem shl_int {i : Int} (h : -2 ≤ i ∧ i < 200) : ShL 2 1 (.int i) := by
  obtain ⟨a, b, c, d⟩ := shw_leaf (okT_i (k := 0) h)
  refine ⟨a, ?_, c, d⟩
  simp only [PyData.leavesShort, decide_eq_true_eq] at b ⊢
  omega
theorem shl_non : ShL 2 1 .none := by
  obtain ⟨a, b, c, d⟩ := shw_leaf (d := .none) rfl
  exact ⟨a, by simp [PyData.leavesShort], c, d⟩
theorem shl_true : ShL 2 1 (.bool true) := by
  obtain ⟨a, b, c, d⟩ := shw_leaf (d := .bool true) rfl
  exact ⟨a, by simp [PyData.leavesShort], c, d⟩
theorem shl_one : ShL 2 1 (.str "1") := by
  obtain ⟨a, b, c, d⟩ := shw_leaf (d := .str "1") (by decide +kernel)
  refine ⟨a, by decide +kernel, c, d⟩
theorem shl_big : ShL 8 1 (.int (10 ^ Int.toNat 20)) := by
  refine ⟨⟨by decide +kernel, by decide +kernel, by decide +kernel⟩, by decide +kernel, by decide +kernel, by decide +kernel⟩
theorem odd_fine {v : PyData} (h : isKD v = false) : ∀ w, w < 4 → fineW w v = false := by
  intro w hw
  by_cases c : w < 3
  · show (if w < 3 then isKD v else _) = false
    rw [if_pos c, h]
  · obtain rfl : w = 3 := by omega
    show isTkD v = false
    cases e : isTkD v with
    | false => rfl
    | true =>
      obtain ⟨k, rfl, hk⟩ := tk_int e
      have : (decide (2 ≤ k) && decide (k ≤ 12)) = false := h
      rw [decide_eq_true (by omega), decide_eq_true (by omega)] at this
      cases this
theorem flat_rep {α : Type} (n : Nat) (a : α) : (List.replicate n [a]).flatten = List.replicate n a := by
  induction n with
  | zero => rfl
  | succ n ih => rw [List.replicate_succ, List.flatten_cons, ih, List.replicate_succ]; rfl
theorem v_neSame {K : PySem.W.Frag} {S : Sto} {Q : QE} {d : PyData} {k : Nat} (c : d.canLay0 = true ∧ d.depth ≤ k) (hk : k ≤ 60) (q : Q (.d (.bool false)) S) : dR2 K (rNeD K) (.d d) (.d d) S Q :=
  r_neD (.d _) (.d _) (shaped_of c (by omega)) (shaped_of c (by omega)) (by rw [SeqAt.eqv_refl _ c.1]; exact q)
theorem all_same {ds : List PyData} {n : Nat} {f : Nat → PyData} (hl : ds.length = n) (h : ∀ i, i < n → ∃ d, ds[i]? = some d ∧ d = f i) : ds = (List.range n).map f := by
  refine List.ext_getElem? fun i => ?_
  rw [List.getElem?_map]
  by_cases c : i < n
  · obtain ⟨d, hd, rfl⟩ := h i c
    rw [hd, List.getElem?_range c]
    rfl
  · rw [List.getElem?_eq_none (by omega), List.getElem?_eq_none (by rw [List.length_range]; omega)]
    rfl
theorem tgt_bad {ds : List PyData} {s : Nat} {x : PyData} (h : ds[s]? = some x) (hx : tgtAt ds.length s x = false) : tgtD (.list ds) = false := by
  have hs : s < ds.length := (List.getElem?_eq_some_iff.mp h).1
  have e : ((List.range ds.length).all fun i => tgtAt ds.length i (ds.getD i .none)) = false := by
    rw [List.all_eq_false]
    refine ⟨s, List.mem_range.mpr hs, ?_⟩
    rw [List.getD_eq_getElem?_getD, h]
    show ¬ tgtAt ds.length s x = true
    rw [hx]
    exact Bool.false_ne_true
  show (decide (2 ≤ ds.length) && decide (ds.length ≤ 12) && (List.range ds.length).all fun i => tgtAt ds.length i (ds.getD i .none)) = false
  rw [e, Bool.and_false]
theorem at_bad {n s : Nat} {x : Int} (h : x < s ∨ (n : Int) ≤ x) : tgtAt n s (.int x) = false := by
  show (decide ((s : Int) ≤ x) && decide (x < (n : Int))) = false
  rcases h with h | h
  · rw [decide_eq_false (by omega), Bool.false_and]
  · rw [decide_eq_false (show ¬ x < (n : Int) by omega), Bool.and_false]
theorem long_bad {ds : List PyData} (h : ¬ (2 ≤ ds.length ∧ ds.length ≤ 12)) : tgtD (.list ds) = false := by
  show (decide (2 ≤ ds.length) && decide (ds.length ≤ 12) && _) = false
  by_cases c : 2 ≤ ds.length
  · rw [decide_eq_false (show ¬ ds.length ≤ 12 from fun z => h ⟨c, z⟩), Bool.and_false, Bool.false_and]
  · rw [decide_eq_false c, Bool.false_and, Bool.false_and]
theorem v_slFromG {K : PySem.W.Frag} {S : Sto} {Q : QE} {ds : List PyData} {i : Int} (h : 0 ≤ i) (q : Q (.d (.list (ds.drop i.toNat))) S) : dR1 K (fun v H Q => rSlL K v (some i) none H Q) (.d (.list ds)) S Q := by
  obtain ⟨k, rfl⟩ : ∃ k : Nat, i = k := ⟨i.toNat, by omega⟩
  exact v_slFrom q
theorem e20 : (10 : Int) ^ Int.toNat 20 = 100000000000000000000 := by decide
theorem ok_law {a_law_told : Addr} {fd_law_told : FuncData} {a_law_source : Addr} {fd_law_source : FuncData} {a_law_draw : Addr} {fd_law_draw : FuncData} {a : Addr} {fd : FuncData} (F : Fun K "law" "law" s_law a fd) (c_law_told : CalG P w K mg base 5 "_law_told" a_law_told fd_law_told ["_law_way", "_law_given"] (spD K spec_law_told)) (c_law_source : CalG P w K mg base 1 "_law_source" a_law_source fd_law_source ["_law_cell", "_law_nth"] (spD K spec_law_source)) (c_law_draw : CalG P w K mg base 1 "_law_draw" a_law_draw fd_law_draw ["_law_source_here", "_law_many"] (spD K spec_law_draw)) (m_range : mg "range" = none) (m_max : mg "max" = none) (m_min : mg "min" = none) (m_len : mg "len" = none) (m_repr : mg "repr" = none) (m_list : mg "list" = none) (m_tuple : mg "tuple" = none) : FnG P w K mg base CX0 6 a fd ["_law_script"] (spD K spec_law) := by
  refine fn_G F sc_law ?len (fun cdv A outer s H E hr hg => ⟨_, (pss_cons (ps_set (i := 1) sc_law.nd rfl (Or.inl rfl) (pe_lst (pa_cons pe_non (pa_cons pe_bl (pa_cons pe_bl (pa_cons pe_str (pa_cons (pe_lst (pa_cons pe_int pa_nil)) (pa_cons (pe_tup (pa_cons pe_int pa_nil)) (pa_cons pe_dnewK (pa_cons (pe_lst pa_nil) (pa_cons pe_int (pa_cons pe_int (pa_cons (pe_un un_neg pe_int) (pa_cons pe_int (pa_cons pe_int (pa_cons (pe_op op_powW pe_int pe_int) (pa_cons (pe_lst (pa_cons pe_int (pa_cons pe_int pa_nil))) pa_nil)))))))))))))))))
    (pss_cons (ps_for PassesOwn.never rfl (kPiL K (pv 1)) (pg_name (i := 2) sc_law.nd rfl (Or.inr rfl)) (pss_one (ps_if (pt_cmpR (kNeD K hr.units) (pe_lc (own := [("_law_way", 13)]) (g := (gName 13)) (tt := tYes) rfl sc_law.nd (pi_range1 (by rfl) m_range (pa_cons pe_int pa_nil)) (blkOk_by (N := ["_law_script", "_law_odd", "_law_bad", "_law_size", "_law_due", "_law_nth", "_law_source_here", "_law_spot", "_law_goal", "_law_turn", "_law_bads", "_law_wrong", "_law_kept", "_law_way"]) (sc := (defScope s_law)) (by decide +kernel)) (fun _ _ _ _ _ => (pg_name (i := 13) sc_law.nd rfl (Or.inl rfl))) (fun _ _ _ _ _ => pts_nil) (fun _ _ _ _ _ => (gcall c_law_told.G (hr.mono (by decide)) hg (by rfl) c_law_told.g c_law_told.kp c_law_told.b .nil pass0 (pa_cons (pv 13) (pa_cons (pv 2) pa_nil))))) (pe_op op_rep (pe_lst (pa_cons (pe_tup (pa_cons pe_str pa_nil)) pa_nil)) pe_int) (nomark _)) (pss_one (ps_ret pe_bl)) pss_nil)))
    (pss_cons (ps_for PassesOwn.never rfl (pi_range2 (by rfl) m_range (pa_cons pe_int (pa_cons pe_int pa_nil))) (pg_name (i := 3) sc_law.nd rfl (Or.inr rfl)) (pss_cons (ps_set (i := 4) sc_law.nd rfl (Or.inl rfl) (pe_ifExp (pt_cmpR (kIn K) (pv 3) (pe_tup (pa_cons pe_int (pa_cons pe_int (pa_cons pe_int pa_nil)))) rfl) (pe_tup (pa_cons pe_str pa_nil)) (pe_tup (pa_cons pe_str pa_nil))))
    (pss_one (ps_if (pt_cmpR (kNeD K hr.units) (pe_lc (own := [("_law_way", 13)]) (g := (gName 13)) (tt := tYes) rfl sc_law.nd (pi_range1 (by rfl) m_range (pa_cons pe_int pa_nil)) (blkOk_by (N := ["_law_script", "_law_odd", "_law_bad", "_law_size", "_law_due", "_law_nth", "_law_source_here", "_law_spot", "_law_goal", "_law_turn", "_law_bads", "_law_wrong", "_law_kept", "_law_way"]) (sc := (defScope s_law)) (by decide +kernel)) (fun _ _ _ _ _ => (pg_name (i := 13) sc_law.nd rfl (Or.inl rfl))) (fun _ _ _ _ _ => pts_nil) (fun _ _ _ _ _ => (gcall c_law_told.G (hr.mono (by decide)) hg (by rfl) c_law_told.g c_law_told.kp c_law_told.b .nil pass0 (pa_cons (pv 13) (pa_cons (pv 3) pa_nil))))) (pe_op (kCat K) (pe_op op_rep (pe_lst (pa_cons (pe_tup (pa_cons pe_str pa_nil)) pa_nil)) pe_int) (pe_lst (pa_cons (pv 4) pa_nil))) (nomark _)) (pss_one (ps_ret pe_bl)) pss_nil))))
    (pss_cons (ps_for PassesOwn.never rfl (pi_range1 (by rfl) m_range (pa_cons (pe_callB (c_max2 rfl) (by rfl) m_max (by decide +kernel) (pa_cons pe_int (pa_cons (pe_callB (c_min2 rfl) (by rfl) m_min (by decide +kernel) (pa_cons pe_int (pa_cons (pe_callB (kLen K) (by rfl) m_len (by decide +kernel) (pa_cons (pv 0) pa_nil)) pa_nil))) pa_nil))) pa_nil)) (pg_name (i := 5) sc_law.nd rfl (Or.inl rfl)) (pss_cons (ps_set (i := 6) sc_law.nd rfl (Or.inr rfl) (gcall c_law_source.G (hr.mono (by decide)) hg (by rfl) c_law_source.g c_law_source.kp c_law_source.b .nil pass0 (pa_cons (pe_ix (kIxL K) (pe_op (kCat K) (pv 0) (pe_lst (pa_cons pe_int pa_nil))) (pv 5) (fun _ _ => rfl)) (pa_cons (pv 5) pa_nil))))
    (pss_cons (ps_set (i := 3) sc_law.nd rfl (Or.inr rfl) (pe_op op_add pe_int (gcall c_law_draw.G (hr.mono (by decide)) hg (by rfl) c_law_draw.g c_law_draw.kp c_law_draw.b .nil pass0 (pa_cons (pv 6) (pa_cons pe_int pa_nil)))))
    (pss_cons (ps_setLc (i := 8) (own := [("_law_spot", 7)]) (g := (gName 7)) (tt := tYes) rfl sc_law.nd rfl rfl (sw_true rfl rfl rfl (by decide +kernel)) (pi_range1 (by rfl) m_range (pa_cons (pv 3) pa_nil)) (blkOk_by (N := ["_law_script", "_law_odd", "_law_bad", "_law_size", "_law_due", "_law_nth", "_law_source_here", "_law_spot", "_law_goal", "_law_turn", "_law_bads", "_law_wrong", "_law_kept", "_law_way"]) (sc := (defScope s_law)) (by decide +kernel)) (fun _ _ _ _ _ => (pg_name (i := 7) sc_law.nd rfl (Or.inl rfl))) (fun _ _ _ _ _ => pts_nil) (fun _ _ _ _ _ => (pe_op op_add (pv 7) (gcall c_law_draw.G (hr.mono (by decide)) hg (by rfl) c_law_draw.g c_law_draw.kp c_law_draw.b .nil pass0 (pa_cons (pv 6) (pa_cons (pe_op op_sub (pv 3) (pv 7)) pa_nil))))))
    (pss_cons (ps_if (pt_cmpR (kNeD K hr.units) (gcall c_law_told.G (hr.mono (by decide)) hg (by rfl) c_law_told.g c_law_told.kp c_law_told.b .nil pass0 (pa_cons pe_int (pa_cons (pv 8) pa_nil))) (pe_tup (pa_cons pe_str pa_nil)) (nomark _)) (pss_one (ps_ret pe_bl)) pss_nil)
    (pss_cons (ps_for PassesOwn.never rfl (pi_range1 (by rfl) m_range (pa_cons pe_int pa_nil)) (pg_name (i := 9) sc_law.nd rfl (Or.inl rfl)) (pss_cons (ps_set (i := 7) sc_law.nd rfl (Or.inl rfl) (gcall c_law_draw.G (hr.mono (by decide)) hg (by rfl) c_law_draw.g c_law_draw.kp c_law_draw.b .nil pass0 (pa_cons (pv 6) (pa_cons (pv 3) pa_nil))))
    (pss_cons (ps_set (i := 10) sc_law.nd rfl (Or.inl rfl) (pe_lst (pa_cons pe_non (pa_cons pe_bl (pa_cons pe_str (pa_cons (pe_lst (pa_cons (pv 7) pa_nil)) (pa_cons (pv 3) (pa_cons (pe_op op_sub (pv 7) pe_int) (pa_cons (pe_un un_neg pe_int) (pa_cons (pe_op op_powW pe_int pe_int) pa_nil))))))))))
    (pss_cons (ps_set (i := 11) sc_law.nd rfl (Or.inl rfl) (pe_op (kCat K) (pe_op (kCat K) (pe_slice (kSlL K) (pv 8) po_none (po_some (pv 7))) (pe_lst (pa_cons (pe_ix (kIxL K) (pv 10) (gcall c_law_draw.G (hr.mono (by decide)) hg (by rfl) c_law_draw.g c_law_draw.kp c_law_draw.b .nil pass0 (pa_cons (pv 6) (pa_cons pe_int pa_nil))) (fun _ _ => rfl)) pa_nil))) (pe_slice (kSlL K) (pv 8) (po_some (pe_op op_add (pv 7) pe_int)) po_none)))
    (pss_cons (ps_set (i := 12) sc_law.nd rfl (Or.inl rfl) (pe_callB (c_reprX K hr hg) (by rfl) m_repr (by decide +kernel) (pa_cons (pv 11) pa_nil)))
    (pss_one (ps_if (PW.pt (pw_or (pt_cmpR (kNeD K hr.units) (gcall c_law_told.G (hr.mono (by decide)) hg (by rfl) c_law_told.g c_law_told.kp c_law_told.b .nil pass0 (pa_cons pe_int (pa_cons (pv 11) pa_nil))) (pe_tup (pa_cons pe_str pa_nil)) (nomark _)) (pw_or1 (pt_cmpR (kNeD K hr.units) (pe_callB (c_reprX K hr hg) (by rfl) m_repr (by decide +kernel) (pa_cons (pv 11) pa_nil)) (pv 12) (nomark _))))) (pss_one (ps_ret pe_bl)) pss_nil)))))))
    (pss_one (ps_for PassesOwn.never rfl (kPiL K (pe_lst (pa_cons (pe_callTy (kTup K) (by rfl) m_tuple (by decide +kernel) (pa_cons (pv 8) pa_nil)) (pa_cons (pe_op (kCat K) (pe_slice (kSlL K) (pv 8) (po_some pe_int) po_none) (pe_lst (pa_cons pe_int pa_nil))) (pa_cons pe_non (pa_cons pe_int (pa_cons pe_str (pa_cons (pe_lst pa_nil) (pa_cons (pe_lst (pa_cons pe_int pa_nil)) (pa_cons pe_dnewK (pa_cons pe_bl (pa_cons (pe_op op_rep (pe_lst (pa_cons pe_int pa_nil)) pe_int) (pa_cons (pe_listRg rfl (by rfl) m_list (prg_1 (by rfl) m_range pe_int)) pa_nil))))))))))))) (pg_name (i := 2) sc_law.nd rfl (Or.inr rfl)) (pss_one (ps_if (pt_cmpR (kNeD K hr.units) (gcall c_law_told.G (hr.mono (by decide)) hg (by rfl) c_law_told.g c_law_told.kp c_law_told.b .nil pass0 (pa_cons pe_int (pa_cons (pv 2) pa_nil))) (pe_tup (pa_cons pe_str pa_nil)) (nomark _)) (pss_one (ps_ret pe_bl)) pss_nil))))))))))
    (pss_one (ps_ret pe_bl)))))), ?main⟩)
  · rintro a xs S ⟨rfl, _⟩
    rfl
  · rintro ns xs S ⟨rfl, rfl, hlen⟩
    fail "vstart"
    refine s_seq (s_asg ?_)
    refine v_lst ?_
    (repeat fail "vx")
    refine d_dnew ?_
    (repeat fail "vx")
    refine ⟨[_, _, _, _, _, _, _, _, _, _, _, _, _, _, _], rfl, by show 15 ≤ 100; decide, ?_⟩
    have hodd : ∀ v ∈ [PyData.none, .bool true, .bool false, .str "4", .list [.int 4], .tuple [.int 4], .dict [], .list [], .int 0, .int 1, .int (-2), .int 13, .int 16, .int (10 ^ Int.toNat 30), .list [.int 2, .int 4]], isKD v = false := by
      intro v hv
      simp only [List.mem_cons, List.not_mem_nil, or_false] at hv
      rcases hv with rfl | rfl | rfl | rfl | rfl | rfl | rfl | rfl | rfl | rfl | rfl | rfl | rfl | rfl | rfl <;> first | rfl | decide +kernel
    generalize [PyData.none, .bool true, .bool false, .str "4", .list [.int 4], .tuple [.int 4], .dict [], .list [], .int 0, .int 1, .int (-2), .int 13, .int 16, .int (10 ^ Int.toNat 30), .list [.int 2, .int 4]] = os at hodd
    (repeat fail "vx")
    refine ⟨fun i Γ' S' => ∃ t2 t3 t4 t5 t6 t7 t8 t9 t10 t11 t12 t13, Γ' = [some (.d (li ns)), some (.d (.list os)), t2, t3, t4, t5, t6, t7, t8, t9, t10, t11, t12, t13] ∧ S' = [], ⟨_, _, _, _, _, _, _, _, _, _, _, _,  rfl, rfl⟩, fun _ _ _ _ => trivial, ?_, ?_⟩
    · rintro i Γ' S' y S2 hi ⟨t2, t3, t4, t5, t6, t7, t8, t9, t10, t11, t12, t13, rfl, rfl⟩ ⟨v, hv, rfl, rfl⟩
      have hkv := hodd v (List.mem_of_getElem? hv)
      (repeat fail "vx")
      refine v_map (gw_name (by decide)) ?_
      (repeat fail "vx")
      refine ⟨by decide, by decide, fun _ d => d = .tuple [.str "number"], by decide, fun _ _ => trivial, ?_, ?_⟩
      · rintro D acc q y S2 hq ⟨rfl, rfl⟩
        have hq4 : q < 4 := hq
        (repeat fail "vx")
        refine ⟨(q, v), ⟨rfl, by dsimp only; omega, fun z => by dsimp only at z; omega⟩, ?_⟩
        rintro _ _ ⟨rfl, rfl⟩
        exact ⟨_, .d, by rw [odd_fine hkv q hq4]; rfl⟩
      intro ds hdl hds
      have e6 := all_same (f := fun _ => .tuple [.str "number"]) hdl hds
      subst e6
      refine v_rep ?_
      (repeat fail "vx")
      refine ⟨[_], rfl, by show 1 ≤ 100; decide, ?_⟩
      (repeat fail "vx")
      refine ⟨by decide, by decide, by show 1 * 4 ≤ 100000; decide, ?_⟩
      show dR2 K (rNeD K) (.d (.list [.tuple [.str "number"], .tuple [.str "number"], .tuple [.str "number"], .tuple [.str "number"]])) (.d (.list [.tuple [.str "number"], .tuple [.str "number"], .tuple [.str "number"], .tuple [.str "number"]])) _ _
      refine v_neSame (k := 4) ⟨by decide +kernel, by decide +kernel⟩ (by decide) ?_
      (repeat fail "vx")
      exact ⟨fun z => (by cases z), fun _ => s_next ⟨_, _, _, _, _, _, _, _, _, _, _, _,  rfl, rfl⟩⟩
    rintro Γ' S' ⟨t2, t3, t4, t5, t6, t7, t8, t9, t10, t11, t12, t13, rfl, rfl⟩
    (repeat fail "vx")
    refine ⟨2, 13, rfl, by decide, fun i Γ' S' => ∃ t2 t3 t4 t5 t6 t7 t8 t9 t10 t11 t12 t13, Γ' = [some (.d (li ns)), some (.d (.list os)), t2, t3, t4, t5, t6, t7, t8, t9, t10, t11, t12, t13] ∧ S' = [], ⟨_, _, _, _, _, _, _, _, _, _, _, _,  rfl, rfl⟩, fun _ _ _ _ => trivial, ?_, ?_⟩
    · rintro i Γ' S' y S2 hi ⟨t2, t3, t4, t5, t6, t7, t8, t9, t10, t11, t12, t13, rfl, rfl⟩ ⟨rfl, rfl⟩
      have hi11 : i < 11 := hi
      obtain ⟨k, hk, hk1, hk2⟩ : ∃ k : Nat, (2 : Int) + (i : Int) = (k : Nat) ∧ 2 ≤ k ∧ k ≤ 12 := ⟨2 + i, by omega, by omega, by omega⟩
      rw [hk]
      have hkd : isKD (.int (k : Nat)) = true := by
        show (decide (2 ≤ ((k : Nat) : Int)) && decide (((k : Nat) : Int) ≤ 12)) = true
        rw [decide_eq_true (by omega), decide_eq_true (by omega)]
        rfl
      have e : ([PyData.int 2, .int 4, .int 8].any fun z => PyData.eqv z (.int (k : Nat))) = isTkD (.int (k : Nat)) := by
        have h (m : Int) : decide (m = (k : Nat)) = decide (((k : Nat) : Int) = m) := decide_eq_decide.mpr ⟨Eq.symm, Eq.symm⟩
        simp only [List.any_cons, List.any_nil, eqv_int, Bool.or_false]
        rw [h 2, h 4, h 8, ← Bool.or_assoc]
        rfl
      (repeat fail "vx")
      refine d_post (fun x S1 => x = .d (ansT (isTkD (.int (k : Nat)))) ∧ S1 = []) (d_ifE ?_) ?_
      · (repeat fail "vx")
        refine r_in (ds := [.int 2, .int 4, .int 8]) (.d _) (.inr (.d _)) rfl rfl ?_
        refine ⟨isTkD (.int (k : Nat)), by rw [if_neg Bool.false_ne_true, e], fun z => ?_, fun z => ?_⟩
        · (repeat fail "vx")
          exact ⟨by rw [z]; rfl, rfl⟩
        · (repeat fail "vx")
          exact ⟨by rw [z]; rfl, rfl⟩
      rintro x S1 ⟨rfl, rfl⟩
      (repeat fail "vx")
      refine v_map (gw_name (by decide)) ?_
      (repeat fail "vx")
      refine ⟨by decide, by decide, fun q d => d = ansT (fineW q (.int (k : Nat))), by decide, fun _ _ => trivial, ?_, ?_⟩
      · rintro D acc q y S2 hq ⟨rfl, rfl⟩
        have hq4 : q < 4 := hq
        (repeat fail "vx")
        refine ⟨(q, .int (k : Nat)), ⟨rfl, by dsimp only; omega, fun z => by dsimp only at z; omega⟩, ?_⟩
        rintro _ _ ⟨rfl, rfl⟩
        exact ⟨_, .d, rfl⟩
      intro ds hdl hds
      have e6 := all_same (f := fun q => ansT (fineW q (.int (k : Nat)))) hdl hds
      subst e6
      refine d_op (v_rep ?_)
      (repeat fail "vx")
      refine ⟨[_], rfl, by show 1 ≤ 100; decide, ?_⟩
      (repeat fail "vx")
      refine ⟨by decide, by decide, by show 1 * 3 ≤ 100000; decide, ?_⟩
      (repeat fail "vx")
      refine v_cat (by show 3 + 1 ≤ 100000; decide) ?_
      have e7 : (List.range (Int.toNat 4)).map (fun q => ansT (fineW q (.int (k : Nat)))) = [.tuple [.str "fine"], .tuple [.str "fine"], .tuple [.str "fine"], ansT (isTkD (.int (k : Nat)))] := by
        show [ansT (isKD (.int (k : Nat))), ansT (isKD (.int (k : Nat))), ansT (isKD (.int (k : Nat))), ansT (isTkD (.int (k : Nat)))] = _
        rw [hkd]
        rfl
      rw [e7]
      show dR2 K (rNeD K) (.d (.list [.tuple [.str "fine"], .tuple [.str "fine"], .tuple [.str "fine"], ansT (isTkD (.int (k : Nat)))])) (.d (.list [.tuple [.str "fine"], .tuple [.str "fine"], .tuple [.str "fine"], ansT (isTkD (.int (k : Nat)))])) _ _
      refine v_neSame (k := 4) ⟨by cases isTkD (.int (k : Nat)) <;> decide +kernel, by cases isTkD (.int (k : Nat)) <;> decide +kernel⟩ (by decide) ?_
      (repeat fail "vx")
      exact ⟨fun z => (by cases z), fun _ => s_next ⟨_, _, _, _, _, _, _, _, _, _, _, _,  rfl, rfl⟩⟩
    rintro Γ' S' ⟨t2, t3, t4, t5, t6, t7, t8, t9, t10, t11, t12, t13, rfl, rfl⟩
    (repeat fail "vx")
    refine ⟨by split <;> split <;> omega, by split <;> split <;> omega, fun i Γ' S' => ∃ t2 t3 t4 t5 t6 t7 t8 t9 t10 t11 t12 t13, Γ' = [some (.d (li ns)), some (.d (.list os)), t2, t3, t4, t5, t6, t7, t8, t9, t10, t11, t12, t13], ⟨_, _, _, _, _, _, _, _, _, _, _, _,  rfl⟩, fun _ _ _ _ => trivial, ?_, ?_⟩
    rotate_left
    · rintro Γ' S' ⟨t2, t3, t4, t5, t6, t7, t8, t9, t10, t11, t12, t13, rfl⟩
      (repeat fail "vx")
      rfl
    rintro i Γ' S' y S2 hi ⟨t2, t3, t4, t5, t6, t7, t8, t9, t10, t11, t12, t13, rfl⟩ ⟨rfl, rfl⟩
    have hi' : (i : Int) ≤ ns.length ∧ i ≤ 4 := by
      split at hi <;> split at hi <;> omega
    refine g_name (s_weak (S' := []) (List.nil_sublist _) ?_)
    dsimp only [List.set]
    (repeat fail "vx")
    refine v_cat (ds := ns.map .int) (es := [.int 0]) (by rw [List.length_map]; show _ + 1 ≤ 100000; omega) ?_
    (repeat fail "vx")
    refine v_ix (d := .int ((ns ++ [0]).getD i 0)) (by omega) ?_ ?_
    · rw [Int.toNat_natCast, show ns.map PyData.int ++ [PyData.int 0] = (ns ++ [0]).map PyData.int by rw [List.map_append]; rfl, List.getElem?_map, List.getD_eq_getElem?_getD]
      have hil : i < (ns ++ [0]).length := by rw [List.length_append, List.length_singleton]; omega
      rw [List.getElem?_eq_getElem hil]
      rfl
    (repeat fail "vx")
    refine ⟨(_, (i : Int)), ⟨rfl, by dsimp only; omega, by dsimp only; omega⟩, ?_⟩
    rintro y S' ⟨p, a, b, rfl, rfl, ok⟩
    (repeat fail "vx")
    refine ⟨⟨[], [], p, a, b, 0, 0, 11⟩, ⟨rfl, rfl, ok, by dsimp only; decide +kernel, by dsimp only; decide, show (11 : Int) < 2 ^ 8000 from by decide +kernel⟩, ?_⟩
    rintro y S' ⟨k1, a1, c1, rfl, k10, k11, ok1, rfl⟩
    dsimp only at k11 ok1 ⊢
    obtain ⟨n, hn, hn1, hn2⟩ : ∃ n : Nat, 2 + k1 = (n : Nat) ∧ 2 ≤ n ∧ n ≤ 12 := ⟨(2 + k1).toNat, by omega, by omega, by omega⟩
    (repeat fail "vx")
    rw [hn]
    refine v_lc (gw_name (by decide)) ?_
    (repeat fail "vx")
    refine ⟨by omega, by omega, fun j acc S' => ∃ (a' c' : Int) (t : List Int), SrcOk a' b c' (1 + (j : Nat)) ∧ S' = [(p, srcC a' b c')] ∧ acc = t.map PyData.int ∧ t.length = j ∧ ∀ q, q < j → (q : Int) ≤ t.getD q 0 ∧ t.getD q 0 < (n : Nat), ⟨a1, c1, [], ok1.le (by omega), rfl, rfl, rfl, fun q h => absurd h (Nat.not_lt_zero _)⟩, fun _ _ _ _ _ => trivial, ?_, ?_⟩
    · rintro D j acc S' y S2 hj ⟨a', c', t, ok', rfl, rfl, htl, ht⟩ ⟨rfl, rfl⟩
      have hjn : j < n := by omega
      (repeat fail "vx")
      refine ⟨fun _ => ?_, fun z => (by cases z)⟩
      (repeat fail "vx")
      have e60 : (2 : Int) ^ 60 = 1152921504606846976 := by decide
      refine ⟨⟨[(D, .lst ((t.map PyData.int).map .d))], [], p, a', b, c', 1 + (j : Nat), (n : Int) - (j : Nat)⟩, ⟨rfl, rfl, ok', by dsimp only; omega, by dsimp only; omega, Int.lt_of_le_of_lt (show (n : Int) - (j : Nat) ≤ 12 by omega) (by decide +kernel)⟩, ?_⟩
      rintro y S' ⟨k, a2, c2, rfl, k0, k1', ok2, rfl⟩
      dsimp only at k1' ok2
      (repeat fail "vx")
      refine ⟨_, _, .d, by rw [List.length_map]; omega, a2, c2, t ++ [(j : Int) + k], ok2.le (by omega), rfl, by rw [List.map_append]; rfl, by rw [List.length_append, htl]; rfl, fun q hq => ?_⟩
      rw [List.getD_eq_getElem?_getD]
      by_cases c : q < j
      · rw [List.getElem?_append_left (by omega), ← List.getD_eq_getElem?_getD]
        exact ht q c
      · rw [List.getElem?_append_right (by omega), htl, show q - j = 0 by omega]
        show (q : Int) ≤ (j : Int) + k ∧ (j : Int) + k < n
        omega
    rintro acc S' ⟨a2, c2, t, ok2, rfl, rfl, htl, ht⟩
    rw [Int.toNat_natCast] at htl ht
    have hT : IsT t := ⟨by omega, by omega, fun q hq => by rw [htl] at hq ⊢; exact ht q hq⟩
    rw [show 1 + ((Int.toNat (n : Nat) : Nat) : Int) = ((1 + n : Nat) : Int) by omega] at ok2
    (repeat fail "vx")
    refine ⟨(4, li t), ⟨rfl, by dsimp only; omega, fun _ _ => ⟨t, rfl, hT⟩⟩, ?_⟩
    rintro _ _ ⟨rfl, rfl⟩
    (repeat fail "vx")
    show dR2 K (rNeD K) (.d (ansT (tgtD (li t)))) _ _ _
    rw [tgt_isT hT]
    show dR2 K (rNeD K) (.d (.tuple [.str "fine"])) (.d (.tuple [.str "fine"])) _ _
    refine v_neSame (k := 4) ⟨by decide +kernel, by decide +kernel⟩ (by decide) ?_
    refine ⟨false, rfl, fun z => (by cases z), fun _ => s_next ?_⟩
    (repeat fail "vx")
    refine ⟨by decide, by decide, fun j Γ' S' => ∃ (a' c' : Int) (t7 t9 t10 t11 t12 t13 : Option Va), SrcOk a' b c' (1 + n + 2 * (j : Nat)) ∧ S' = [(p, srcC a' b c')] ∧ Γ' = [some (.d (li ns)), some (.d (.list os)), t2, some (.d (.int (n : Nat))), t4, some (.d (.int (i : Nat))), some (.r p), t7, some (.d (.list (t.map PyData.int))), t9, t10, t11, t12, t13], ⟨a2, c2, _, _, _, _, _, _, ok2.le (by omega), rfl, rfl⟩, fun _ _ _ _ => trivial, ?_, ?_⟩
    · rintro j Γ' S' y S2 hj ⟨a', c', t7, t9, t10, t11, t12, t13, ok', rfl, rfl⟩ ⟨rfl, rfl⟩
      have hj4 : j < 4 := hj
      have e60 : (2 : Int) ^ 60 = 1152921504606846976 := by decide
      (repeat fail "vx")
      refine ⟨⟨[], [], p, a', b, c', 1 + n + 2 * (j : Nat), (n : Nat)⟩, ⟨rfl, rfl, ok', by dsimp only; omega, by dsimp only; omega, Int.lt_of_le_of_lt (show ((n : Nat) : Int) ≤ 12 by omega) (by decide +kernel)⟩, ?_⟩
      rintro y S' ⟨s0, a3, c3, rfl, w0, w1, ok3, rfl⟩
      dsimp only [List.nil_append] at w1 ok3 ⊢
      obtain ⟨s, rfl⟩ : ∃ s : Nat, s0 = (s : Nat) := ⟨s0.toNat, by omega⟩
      have hs : s < n := by omega
      (repeat fail "vx")
      have hbad : ∀ x ∈ [PyData.none, .bool true, .str "1", .list [.int (s : Nat)], .int (n : Nat), .int ((s : Nat) - 1), .int (-1), .int (10 ^ Int.toNat 20)], tgtAt n s x = false ∧ ShL 8 2 x := by
        intro x hx
        simp only [List.mem_cons, List.not_mem_nil, or_false] at hx
        rcases hx with rfl | rfl | rfl | rfl | rfl | rfl | rfl | rfl
        · exact ⟨rfl, shl_non.up (by decide) (by decide)⟩
        · exact ⟨rfl, shl_true.up (by decide) (by decide)⟩
        · exact ⟨rfl, shl_one.up (by decide) (by decide)⟩
        · exact ⟨rfl, (shl_list (n := 1) (B := 2) (k := 1) (fun d hd => by rw [List.mem_singleton.mp hd]; exact shl_int (by omega)) (Nat.le_refl _)).up (by decide) (by decide)⟩
        · exact ⟨at_bad (.inr (Int.le_refl _)), (shl_int (by omega)).up (by decide) (by decide)⟩
        · exact ⟨at_bad (.inl (by omega)), (shl_int (by omega)).up (by decide) (by decide)⟩
        · exact ⟨at_bad (.inl (by omega)), (shl_int (by omega)).up (by decide) (by decide)⟩
        · exact ⟨at_bad (.inr (by rw [e20]; omega)), shl_big.up (by decide) (by decide)⟩
      have hb8 : [PyData.none, .bool true, .str "1", .list [.int (s : Nat)], .int (n : Nat), .int ((s : Nat) - 1), .int (-1), .int (10 ^ Int.toNat 20)].length = 8 := rfl
      generalize [PyData.none, .bool true, .str "1", .list [.int (s : Nat)], .int (n : Nat), .int ((s : Nat) - 1), .int (-1), .int (10 ^ Int.toNat 20)] = ks at hbad hb8
      refine v_slTo ?_
      refine v_lst ?_
      (repeat fail "vx")
      refine ⟨⟨[], [], p, a3, b, c3, 1 + n + 2 * (j : Nat) + 1, 8⟩, ⟨rfl, rfl, ok3, by dsimp only; omega, by dsimp only; omega, show (8 : Int) < 2 ^ 8000 from by decide +kernel⟩, ?_⟩
      rintro y S' ⟨k0, a4, c4, rfl, w2, w3, ok4, rfl⟩
      dsimp only [List.nil_append] at w3 ok4 ⊢
      obtain ⟨k, rfl⟩ : ∃ k : Nat, k0 = (k : Nat) := ⟨k0.toNat, by omega⟩
      have hk : k < ks.length := by omega
      refine v_ix (d := ks[k]) (by omega) (by rw [Int.toNat_natCast]; exact List.getElem?_eq_getElem hk) ?_
      obtain ⟨hx, hxs⟩ := hbad ks[k] (List.getElem_mem hk)
      generalize ks[k] = x at hx hxs
      (repeat fail "vx")
      refine ⟨[_], rfl, by show 1 ≤ 100; decide, ?_⟩
      refine v_cat (by rw [List.length_take, List.length_map]; show _ + 1 ≤ 100000; omega) ?_
      (repeat fail "vx")
      refine v_slFromG (by omega) ?_
      refine v_cat (by rw [List.length_append, List.length_take, List.length_map, List.length_drop, List.length_map, List.length_singleton]; omega) ?_
      have htm : (t.map PyData.int).length = n := by rw [List.length_map, htl]
      have hwl : ((t.map PyData.int).take s ++ [x] ++ (t.map PyData.int).drop ((s : Int) + 1).toNat).length = n := by
        simp only [List.length_append, List.length_take, List.length_drop, List.length_singleton, htm]
        omega
      have hw0 : ((t.map PyData.int).take s ++ [x] ++ (t.map PyData.int).drop ((s : Int) + 1).toNat)[s]? = some x := by
        rw [List.append_assoc, List.getElem?_append_right (by rw [List.length_take, htm]; omega), List.length_take, htm, show s - min s n = 0 by omega]
        rfl
      have hti : ∀ d ∈ t.map PyData.int, ShL 8 2 d := by
        intro d hd
        obtain ⟨z, hz, rfl⟩ := List.mem_map.mp hd
        obtain ⟨q, hq, rfl⟩ := List.getElem_of_mem hz
        have := ht q (by omega)
        rw [List.getD_eq_getElem?_getD, List.getElem?_eq_getElem hq] at this
        have h2 : (q : Int) ≤ t[q] ∧ t[q] < n := this
        exact (shl_int (by omega)).up (by decide) (by decide)
      have hw4 : ∀ d ∈ (t.map PyData.int).take s ++ [x] ++ (t.map PyData.int).drop ((s : Int) + 1).toNat, ShL 8 2 d := by
        intro d hd
        rcases List.mem_append.mp hd with h | h
        · rcases List.mem_append.mp h with h | h
          · exact hti d (List.mem_of_mem_take h)
          · rw [List.mem_singleton.mp h]; exact hxs
        · exact hti d (List.mem_of_mem_drop h)
      have hw1 := tgt_bad hw0 (by rw [hwl]; exact hx)
      clear hw0
      generalize (t.map PyData.int).take s ++ [x] ++ (t.map PyData.int).drop ((s : Int) + 1).toNat = ws at hwl hw4 hw1
      (repeat fail "vx")
      have hsw : ShL 200 3 (.list ws) := (shl_list (n := 12) hw4 (by omega)).up (by decide) (by decide)
      refine r_reprL hsw (.d _) (by decide) (by decide) ?_
      (repeat fail "vx")
      refine ⟨(4, .list ws), ⟨rfl, by dsimp only; omega, fun _ z => by dsimp only at z; rw [hw1] at z; cases z⟩, ?_⟩
      rintro _ _ ⟨rfl, rfl⟩
      (repeat fail "vx")
      show dR2 K (rNeD K) (.d (ansT (tgtD (.list ws)))) _ _ _
      rw [hw1]
      show dR2 K (rNeD K) (.d (.tuple [.str "number"])) (.d (.tuple [.str "number"])) _ _
      refine v_neSame (k := 4) ⟨by decide +kernel, by decide +kernel⟩ (by decide) ?_
      (repeat fail "vx")
      refine ⟨fun z => (by cases z), fun _ => ?_⟩
      (repeat fail "vx")
      refine r_reprL hsw (.d _) (by decide) (by decide) ?_
      (repeat fail "vx")
      refine r_neT hsw.1.1 ?_
      (repeat fail "vx")
      exact ⟨fun z => (by cases z), fun _ => s_next ⟨a4, c4, _, _, _, _, _, _, ok4.le (by omega), rfl, rfl⟩⟩
    · rintro Γ' S' ⟨a', c', t7, t9, t10, t11, t12, t13, ok', rfl, rfl⟩
      (repeat fail "vx")
      refine i_D ?_
      refine v_lst ?_
      (repeat fail "vx")
      refine v_slFromG (by omega) ?_
      (repeat fail "vx")
      refine v_cat (by rw [List.length_drop, List.length_map]; show _ + 1 ≤ 100000; omega) ?_
      (repeat fail "vx")
      refine d_dnew ?_
      (repeat fail "vx")
      refine ⟨by decide, by decide, by show 1 * 13 ≤ 100000; decide, ?_⟩
      (repeat fail "vx")
      refine ⟨by omega, ?_⟩
      (repeat fail "vx")
      refine ⟨[_, _, _, _, _, _, _, _, _, _, _], rfl, by show 11 ≤ 100; decide, ?_⟩
      have hbl : ∀ v ∈ [PyData.tuple (t.map PyData.int), .list ((t.map PyData.int).drop (Int.toNat 1) ++ [.int 0]), .none, .int 0, .str "01", .list [], .list [.int 0], .dict [], .bool true, .list (List.replicate (Int.toNat 13) [PyData.int 0]).flatten, li (rg 13)], tgtD v = false := by
        intro v hv
        simp only [List.mem_cons, List.not_mem_nil, or_false] at hv
        rcases hv with rfl | rfl | rfl | rfl | rfl | rfl | rfl | rfl | rfl | rfl | rfl
        · rfl
        · have hdl : ((t.map PyData.int).drop (Int.toNat 1)).length = n - 1 := by rw [List.length_drop, List.length_map, htl]; rfl
          refine tgt_bad (s := n - 1) (x := .int 0) (by rw [List.getElem?_append_right (by omega), hdl, Nat.sub_self]; rfl) ?_
          exact at_bad (.inl (by omega))
        · rfl
        · rfl
        · rfl
        · rfl
        · decide +kernel
        · rfl
        · rfl
        · decide +kernel
        · decide +kernel
      generalize [PyData.tuple (t.map PyData.int), .list ((t.map PyData.int).drop (Int.toNat 1) ++ [.int 0]), .none, .int 0, .str "01", .list [], .list [.int 0], .dict [], .bool true, .list (List.replicate (Int.toNat 13) [PyData.int 0]).flatten, li (rg 13)] = ls at hbl
      refine ⟨ls, rfl, fun j Γ' S' => ∃ t2 t3 t4 t5 t6 t7 t8 t9 t10 t11 t12 t13, Γ' = [some (.d (li ns)), some (.d (.list os)), t2, t3, t4, t5, t6, t7, t8, t9, t10, t11, t12, t13], ⟨_, _, _, _, _, _, _, _, _, _, _, _, rfl⟩, fun _ _ _ _ => trivial, ?_, ?_⟩
      · rintro j Γ' S' y S2 hj ⟨t2, t3, t4, t5, t6, t7, t8, t9, t10, t11, t12, t13, rfl⟩ ⟨v, hv, rfl, rfl⟩
        have hvb := hbl v (List.mem_of_getElem? hv)
        (repeat fail "vx")
        refine ⟨(4, v), ⟨rfl, by dsimp only; omega, fun _ z => by dsimp only at z; rw [hvb] at z; cases z⟩, ?_⟩
        rintro _ _ ⟨rfl, rfl⟩
        (repeat fail "vx")
        show dR2 K (rNeD K) (.d (ansT (tgtD v))) _ _ _
        rw [hvb]
        show dR2 K (rNeD K) (.d (.tuple [.str "number"])) (.d (.tuple [.str "number"])) _ _
        refine v_neSame (k := 4) ⟨by decide +kernel, by decide +kernel⟩ (by decide) ?_
        (repeat fail "vx")
        exact ⟨fun z => (by cases z), fun _ => s_next ⟨_, _, _, _, _, _, _, _, _, _, _, _, rfl⟩⟩
      · rintro Γ' S' ⟨t2, t3, t4, t5, t6, t7, t8, t9, t10, t11, t12, t13, rfl⟩
        exact ⟨_, _, _, _, _, _, _, _, _, _, _, _, rfl⟩

end
theorem all_mk {l : PySem.W.OpenLaw} {w : World} {K : PySem.W.Frag} {h : Heap} {mg : Str → Option Value} {fa : Addr} (X : K.In h) (G : h.Ns mainGlobals mg) (hfa : mg "law" = some (.ref fa))
    {f0 : Addr} {od0 an0 : Option Addr} {sl0 : Array (Option Value)} {oc0 kV0 dc0 pm0 cd0 ct0 : Value}
    {f1 : Addr} {od1 an1 : Option Addr} {sl1 : Array (Option Value)} {oc1 kV1 dc1 pm1 cd1 ct1 : Value}
    {f2 : Addr} {od2 an2 : Option Addr} {sl2 : Array (Option Value)} {oc2 kV2 dc2 pm2 cd2 ct2 : Value}
    {f3 : Addr} {od3 an3 : Option Addr} {sl3 : Array (Option Value)} {oc3 kV3 dc3 pm3 cd3 ct3 : Value}
    {f4 : Addr} {od4 an4 : Option Addr} {sl4 : Array (Option Value)} {oc4 kV4 dc4 pm4 cd4 ct4 : Value}
    {f5 : Addr} {od5 an5 : Option Addr} {sl5 : Array (Option Value)} {oc5 kV5 dc5 pm5 cd5 ct5 : Value}
    {f6 : Addr} {od6 an6 : Option Addr} {sl6 : Array (Option Value)} {oc6 kV6 dc6 pm6 cd6 ct6 : Value}
    {f7 : Addr} {od7 an7 : Option Addr} {sl7 : Array (Option Value)} {oc7 kV7 dc7 pm7 cd7 ct7 : Value}
    {f8 : Addr} {od8 an8 : Option Addr} {sl8 : Array (Option Value)} {oc8 kV8 dc8 pm8 cd8 ct8 : Value}
    {f9 : Addr} {od9 an9 : Option Addr} {sl9 : Array (Option Value)} {oc9 kV9 dc9 pm9 cd9 ct9 : Value}
    {f10 : Addr} {od10 an10 : Option Addr} {sl10 : Array (Option Value)} {oc10 kV10 dc10 pm10 cd10 ct10 : Value}
    {f11 : Addr} {od11 an11 : Option Addr} {sl11 : Array (Option Value)} {oc11 kV11 dc11 pm11 cd11 ct11 : Value}
    {f12 : Addr} {od12 an12 : Option Addr} {sl12 : Array (Option Value)} {oc12 kV12 dc12 pm12 cd12 ct12 : Value}
    {f13 : Addr} {od13 an13 : Option Addr} {sl13 : Array (Option Value)} {oc13 kV13 dc13 pm13 cd13 ct13 : Value}
    {f14 : Addr} {od14 an14 : Option Addr} {sl14 : Array (Option Value)} {oc14 kV14 dc14 pm14 cd14 ct14 : Value}
    {C_GoesError : Addr}
    {C_InvalidNumber : Addr}
    {C_InvalidPermutation : Addr}
    {C_InvalidPermutations : Addr}
    {C_OtherSize : Addr}
    {C_InvalidRow : Addr}
    {C_InvalidRule : Addr}
    {C_TooMany : Addr}
    {C_InvalidStream : Addr}
    {C_InvalidWide : Addr}
    {C_InvalidTable : Addr}
    {C_InvalidRules : Addr}
    {C_InvalidRows : Addr}
    {C_InvalidOutcomes : Addr}
    {C_InvalidBlock : Addr}
    (a0 : PySem.W.nsIn K mainGlobals "is_integer" = some (some (.ref f0))) (l0 : K.lookup f0 = some ⟨oc0, od0, .func (PySem.W.fnOf "is_integer" "is_integer" (defArgs s_is_integer) (defBody s_is_integer) (defScope s_is_integer) .none kV0 dc0 pm0 an0 cd0 ct0), sl0⟩) (c0 : PySem.W.codeIn K cd0 "is_integer" = true) (k0 : PySem.W.keepIn K (.ref f0) = true)
    (a1 : PySem.W.nsIn K mainGlobals "_check_k" = some (some (.ref f1))) (l1 : K.lookup f1 = some ⟨oc1, od1, .func (PySem.W.fnOf "_check_k" "_check_k" (defArgs s_check_k) (defBody s_check_k) (defScope s_check_k) .none kV1 dc1 pm1 an1 cd1 ct1), sl1⟩) (c1 : PySem.W.codeIn K cd1 "_check_k" = true) (k1 : PySem.W.keepIn K (.ref f1) = true)
    (a2 : PySem.W.nsIn K mainGlobals "first_in" = some (some (.ref f2))) (l2 : K.lookup f2 = some ⟨oc2, od2, .func (PySem.W.fnOf "first_in" "first_in" (defArgs s_first_in) (defBody s_first_in) (defScope s_first_in) .none kV2 dc2 pm2 an2 cd2 ct2), sl2⟩) (c2 : PySem.W.codeIn K cd2 "first_in" = true) (k2 : PySem.W.keepIn K (.ref f2) = true)
    (a3 : PySem.W.nsIn K mainGlobals "last_used" = some (some (.ref f3))) (l3 : K.lookup f3 = some ⟨oc3, od3, .func (PySem.W.fnOf "last_used" "last_used" (defArgs s_last_used) (defBody s_last_used) (defScope s_last_used) .none kV3 dc3 pm3 an3 cd3 ct3), sl3⟩) (c3 : PySem.W.codeIn K cd3 "last_used" = true) (k3 : PySem.W.keepIn K (.ref f3) = true)
    (a4 : PySem.W.nsIn K mainGlobals "climbing" = some (some (.ref f4))) (l4 : K.lookup f4 = some ⟨oc4, od4, .func (PySem.W.fnOf "climbing" "climbing" (defArgs s_climbing) (defBody s_climbing) (defScope s_climbing) .none kV4 dc4 pm4 an4 cd4 ct4), sl4⟩) (c4 : PySem.W.codeIn K cd4 "climbing" = true) (k4 : PySem.W.keepIn K (.ref f4) = true)
    (a5 : PySem.W.nsIn K mainGlobals "raised" = some (some (.ref f5))) (l5 : K.lookup f5 = some ⟨oc5, od5, .func (PySem.W.fnOf "raised" "raised" (defArgs s_raised) (defBody s_raised) (defScope s_raised) .none kV5 dc5 pm5 an5 cd5 ct5), sl5⟩) (c5 : PySem.W.codeIn K cd5 "raised" = true) (k5 : PySem.W.keepIn K (.ref f5) = true)
    (a6 : PySem.W.nsIn K mainGlobals "_are_targets" = some (some (.ref f6))) (l6 : K.lookup f6 = some ⟨oc6, od6, .func (PySem.W.fnOf "_are_targets" "_are_targets" (defArgs s_are_targets) (defBody s_are_targets) (defScope s_are_targets) .none kV6 dc6 pm6 an6 cd6 ct6), sl6⟩) (c6 : PySem.W.codeIn K cd6 "_are_targets" = true) (k6 : PySem.W.keepIn K (.ref f6) = true)
    (a7 : PySem.W.nsIn K mainGlobals "_place_raised" = some (some (.ref f7))) (l7 : K.lookup f7 = some ⟨oc7, od7, .func (PySem.W.fnOf "_place_raised" "_place_raised" (defArgs s_place_raised) (defBody s_place_raised) (defScope s_place_raised) .none kV7 dc7 pm7 an7 cd7 ct7), sl7⟩) (c7 : PySem.W.codeIn K cd7 "_place_raised" = true) (k7 : PySem.W.keepIn K (.ref f7) = true)
    (a8 : PySem.W.nsIn K mainGlobals "tree" = some (some (.ref f8))) (l8 : K.lookup f8 = some ⟨oc8, od8, .func (PySem.W.fnOf "tree" "tree" (defArgs s_tree) (defBody s_tree) (defScope s_tree) .none kV8 dc8 pm8 an8 cd8 ct8), sl8⟩) (c8 : PySem.W.codeIn K cd8 "tree" = true) (k8 : PySem.W.keepIn K (.ref f8) = true)
    (a9 : PySem.W.nsIn K mainGlobals "_place_in_tree" = some (some (.ref f9))) (l9 : K.lookup f9 = some ⟨oc9, od9, .func (PySem.W.fnOf "_place_in_tree" "_place_in_tree" (defArgs s_place_in_tree) (defBody s_place_in_tree) (defScope s_place_in_tree) .none kV9 dc9 pm9 an9 cd9 ct9), sl9⟩) (c9 : PySem.W.codeIn K cd9 "_place_in_tree" = true) (k9 : PySem.W.keepIn K (.ref f9) = true)
    (a10 : PySem.W.nsIn K mainGlobals "_law_source" = some (some (.ref f10))) (l10 : K.lookup f10 = some ⟨oc10, od10, .func (PySem.W.fnOf "_law_source" "_law_source" (defArgs s_law_source) (defBody s_law_source) (defScope s_law_source) .none kV10 dc10 pm10 an10 cd10 ct10), sl10⟩) (c10 : PySem.W.codeIn K cd10 "_law_source" = true) (k10 : PySem.W.keepIn K (.ref f10) = true)
    (a11 : PySem.W.nsIn K mainGlobals "_law_draw" = some (some (.ref f11))) (l11 : K.lookup f11 = some ⟨oc11, od11, .func (PySem.W.fnOf "_law_draw" "_law_draw" (defArgs s_law_draw) (defBody s_law_draw) (defScope s_law_draw) .none kV11 dc11 pm11 an11 cd11 ct11), sl11⟩) (c11 : PySem.W.codeIn K cd11 "_law_draw" = true) (k11 : PySem.W.keepIn K (.ref f11) = true)
    (a12 : PySem.W.nsIn K mainGlobals "_law_word_of" = some (some (.ref f12))) (l12 : K.lookup f12 = some ⟨oc12, od12, .func (PySem.W.fnOf "_law_word_of" "_law_word_of" (defArgs s_law_word_of) (defBody s_law_word_of) (defScope s_law_word_of) .none kV12 dc12 pm12 an12 cd12 ct12), sl12⟩) (c12 : PySem.W.codeIn K cd12 "_law_word_of" = true) (k12 : PySem.W.keepIn K (.ref f12) = true)
    (a13 : PySem.W.nsIn K mainGlobals "_law_told" = some (some (.ref f13))) (l13 : K.lookup f13 = some ⟨oc13, od13, .func (PySem.W.fnOf "_law_told" "_law_told" (defArgs s_law_told) (defBody s_law_told) (defScope s_law_told) .none kV13 dc13 pm13 an13 cd13 ct13), sl13⟩) (c13 : PySem.W.codeIn K cd13 "_law_told" = true) (k13 : PySem.W.keepIn K (.ref f13) = true)
    (a14 : PySem.W.nsIn K mainGlobals "law" = some (some (.ref f14))) (l14 : K.lookup f14 = some ⟨oc14, od14, .func (PySem.W.fnOf "law" "law" (defArgs s_law) (defBody s_law) (defScope s_law) .none kV14 dc14 pm14 an14 cd14 ct14), sl14⟩) (c14 : PySem.W.codeIn K cd14 "law" = true) (k14 : PySem.W.keepIn K (.ref f14) = true)
    (z_ValueError : PySem.W.nsIn K mainGlobals "ValueError" = some none)
    (z_abs : PySem.W.nsIn K mainGlobals "abs" = some none)
    (z_all : PySem.W.nsIn K mainGlobals "all" = some none)
    (z_bool : PySem.W.nsIn K mainGlobals "bool" = some none)
    (z_enumerate : PySem.W.nsIn K mainGlobals "enumerate" = some none)
    (z_int : PySem.W.nsIn K mainGlobals "int" = some none)
    (z_isinstance : PySem.W.nsIn K mainGlobals "isinstance" = some none)
    (z_len : PySem.W.nsIn K mainGlobals "len" = some none)
    (z_list : PySem.W.nsIn K mainGlobals "list" = some none)
    (z_max : PySem.W.nsIn K mainGlobals "max" = some none)
    (z_min : PySem.W.nsIn K mainGlobals "min" = some none)
    (z_range : PySem.W.nsIn K mainGlobals "range" = some none)
    (z_repr : PySem.W.nsIn K mainGlobals "repr" = some none)
    (z_tuple : PySem.W.nsIn K mainGlobals "tuple" = some none)
    (g_GoesError : PySem.W.nsIn K mainGlobals "GoesError" = some (some (.ref C_GoesError)))
    (g_InvalidNumber : PySem.W.nsIn K mainGlobals "InvalidNumber" = some (some (.ref C_InvalidNumber)))
    (g_InvalidPermutation : PySem.W.nsIn K mainGlobals "InvalidPermutation" = some (some (.ref C_InvalidPermutation)))
    (g_InvalidPermutations : PySem.W.nsIn K mainGlobals "InvalidPermutations" = some (some (.ref C_InvalidPermutations)))
    (g_OtherSize : PySem.W.nsIn K mainGlobals "OtherSize" = some (some (.ref C_OtherSize)))
    (g_InvalidRow : PySem.W.nsIn K mainGlobals "InvalidRow" = some (some (.ref C_InvalidRow)))
    (g_InvalidRule : PySem.W.nsIn K mainGlobals "InvalidRule" = some (some (.ref C_InvalidRule)))
    (g_TooMany : PySem.W.nsIn K mainGlobals "TooMany" = some (some (.ref C_TooMany)))
    (g_InvalidStream : PySem.W.nsIn K mainGlobals "InvalidStream" = some (some (.ref C_InvalidStream)))
    (g_InvalidWide : PySem.W.nsIn K mainGlobals "InvalidWide" = some (some (.ref C_InvalidWide)))
    (g_InvalidTable : PySem.W.nsIn K mainGlobals "InvalidTable" = some (some (.ref C_InvalidTable)))
    (g_InvalidRules : PySem.W.nsIn K mainGlobals "InvalidRules" = some (some (.ref C_InvalidRules)))
    (g_InvalidRows : PySem.W.nsIn K mainGlobals "InvalidRows" = some (some (.ref C_InvalidRows)))
    (g_InvalidOutcomes : PySem.W.nsIn K mainGlobals "InvalidOutcomes" = some (some (.ref C_InvalidOutcomes)))
    (g_InvalidBlock : PySem.W.nsIn K mainGlobals "InvalidBlock" = some (some (.ref C_InvalidBlock)))
    (hd_GoesError : PySem.W.hasDictIn K C_GoesError = true)
    (ty_GoesError : PySem.W.typeIn K (.ref C_GoesError) = some (.type "type"))
    (hd_InvalidNumber : PySem.W.hasDictIn K C_InvalidNumber = true)
    (ty_InvalidNumber : PySem.W.typeIn K (.ref C_InvalidNumber) = some (.type "type"))
    (hd_InvalidPermutation : PySem.W.hasDictIn K C_InvalidPermutation = true)
    (ty_InvalidPermutation : PySem.W.typeIn K (.ref C_InvalidPermutation) = some (.type "type"))
    (hd_InvalidPermutations : PySem.W.hasDictIn K C_InvalidPermutations = true)
    (ty_InvalidPermutations : PySem.W.typeIn K (.ref C_InvalidPermutations) = some (.type "type"))
    (hd_OtherSize : PySem.W.hasDictIn K C_OtherSize = true)
    (ty_OtherSize : PySem.W.typeIn K (.ref C_OtherSize) = some (.type "type"))
    (hd_InvalidRow : PySem.W.hasDictIn K C_InvalidRow = true)
    (ty_InvalidRow : PySem.W.typeIn K (.ref C_InvalidRow) = some (.type "type"))
    (hd_InvalidRule : PySem.W.hasDictIn K C_InvalidRule = true)
    (ty_InvalidRule : PySem.W.typeIn K (.ref C_InvalidRule) = some (.type "type"))
    (hd_TooMany : PySem.W.hasDictIn K C_TooMany = true)
    (ty_TooMany : PySem.W.typeIn K (.ref C_TooMany) = some (.type "type"))
    (hd_InvalidStream : PySem.W.hasDictIn K C_InvalidStream = true)
    (ty_InvalidStream : PySem.W.typeIn K (.ref C_InvalidStream) = some (.type "type"))
    (hd_InvalidWide : PySem.W.hasDictIn K C_InvalidWide = true)
    (ty_InvalidWide : PySem.W.typeIn K (.ref C_InvalidWide) = some (.type "type"))
    (hd_InvalidTable : PySem.W.hasDictIn K C_InvalidTable = true)
    (ty_InvalidTable : PySem.W.typeIn K (.ref C_InvalidTable) = some (.type "type"))
    (hd_InvalidRules : PySem.W.hasDictIn K C_InvalidRules = true)
    (ty_InvalidRules : PySem.W.typeIn K (.ref C_InvalidRules) = some (.type "type"))
    (hd_InvalidRows : PySem.W.hasDictIn K C_InvalidRows = true)
    (ty_InvalidRows : PySem.W.typeIn K (.ref C_InvalidRows) = some (.type "type"))
    (hd_InvalidOutcomes : PySem.W.hasDictIn K C_InvalidOutcomes = true)
    (ty_InvalidOutcomes : PySem.W.typeIn K (.ref C_InvalidOutcomes) = some (.type "type"))
    (hd_InvalidBlock : PySem.W.hasDictIn K C_InvalidBlock = true)
    (ty_InvalidBlock : PySem.W.typeIn K (.ref C_InvalidBlock) = some (.type "type"))
    (be_GoesError : PySem.W.subIn K (.ref C_GoesError) (.type "BaseException") = some true)
    (be_InvalidNumber : PySem.W.subIn K (.ref C_InvalidNumber) (.type "BaseException") = some true)
    (xsp : PySem.W.specialIn K (.builtin "object.__class__") "__get__" = some (some (.builtin "getset_descriptor.__get__")))
    (xtk : PySem.W.takesIn K (.builtin "object.__class__") = some true)
    (ve_InvalidNumber : PySem.W.subIn K (.ref C_InvalidNumber) (.type "ValueError") = some true)
    (ga_InvalidNumber : PySem.W.findIn K (.ref C_InvalidNumber) "__getattribute__" = some (some (.builtin "BaseException.__getattribute__")))
    (gg_InvalidNumber : PySem.W.findIn K (.ref C_InvalidNumber) "__getattr__" = some none)
    (ca_InvalidNumber : PySem.W.findIn K (.ref C_InvalidNumber) "__class__" = some (some (.builtin "object.__class__")))
    (mo_InvalidNumber : PySem.W.mroIn K C_InvalidNumber (.type "object") = some true)
    (kp_InvalidNumber : PySem.W.keepIn K (.ref C_InvalidNumber) = true)
    (s_InvalidNumber_InvalidNumber : PySem.W.subIn K (.ref C_InvalidNumber) (.ref C_InvalidNumber) = some true)
    (s_InvalidNumber_GoesError : PySem.W.subIn K (.ref C_InvalidNumber) (.ref C_GoesError) = some true)
    (s_InvalidNumber_InvalidPermutation : PySem.W.subIn K (.ref C_InvalidNumber) (.ref C_InvalidPermutation) = some false)
    (s_InvalidNumber_InvalidPermutations : PySem.W.subIn K (.ref C_InvalidNumber) (.ref C_InvalidPermutations) = some false)
    (s_InvalidNumber_OtherSize : PySem.W.subIn K (.ref C_InvalidNumber) (.ref C_OtherSize) = some false)
    (s_InvalidNumber_InvalidRow : PySem.W.subIn K (.ref C_InvalidNumber) (.ref C_InvalidRow) = some false)
    (s_InvalidNumber_InvalidRule : PySem.W.subIn K (.ref C_InvalidNumber) (.ref C_InvalidRule) = some false)
    (s_InvalidNumber_TooMany : PySem.W.subIn K (.ref C_InvalidNumber) (.ref C_TooMany) = some false)
    (s_InvalidNumber_InvalidStream : PySem.W.subIn K (.ref C_InvalidNumber) (.ref C_InvalidStream) = some false)
    (s_InvalidNumber_InvalidWide : PySem.W.subIn K (.ref C_InvalidNumber) (.ref C_InvalidWide) = some false)
    (s_InvalidNumber_InvalidTable : PySem.W.subIn K (.ref C_InvalidNumber) (.ref C_InvalidTable) = some false)
    (s_InvalidNumber_InvalidRules : PySem.W.subIn K (.ref C_InvalidNumber) (.ref C_InvalidRules) = some false)
    (s_InvalidNumber_InvalidRows : PySem.W.subIn K (.ref C_InvalidNumber) (.ref C_InvalidRows) = some false)
    (s_InvalidNumber_InvalidOutcomes : PySem.W.subIn K (.ref C_InvalidNumber) (.ref C_InvalidOutcomes) = some false)
    (s_InvalidNumber_InvalidBlock : PySem.W.subIn K (.ref C_InvalidNumber) (.ref C_InvalidBlock) = some false)
    (q_InvalidNumber : PySem.W.excIn K C_InvalidNumber [.type "ValueError", .type "Exception", .type "BaseException", .type "object"] "ValueError.__new__" = true) :
    ∃ fd : FuncData, (∀ (s : Shared) (v : Value), BindsTo s fd ⟨[v], []⟩ [("_law_script", v)]) ∧ ∀ base : Heap, K.In base → base.Ns mainGlobals mg → FnG l.prog w K mg base CX0 6 fa fd ["_law_script"] (spLaw K) := by
  have e := hfa.symm.trans (PySem.W.mg_of X G a14)
  cases e
  have F0 := fun_mk (st := s_is_integer) l0 c0 k0
  have F1 := fun_mk (st := s_check_k) l1 c1 k1
  have F2 := fun_mk (st := s_first_in) l2 c2 k2
  have F3 := fun_mk (st := s_last_used) l3 c3 k3
  have F4 := fun_mk (st := s_climbing) l4 c4 k4
  have F5 := fun_mk (st := s_raised) l5 c5 k5
  have F6 := fun_mk (st := s_are_targets) l6 c6 k6
  have F7 := fun_mk (st := s_place_raised) l7 c7 k7
  have F8 := fun_mk (st := s_tree) l8 c8 k8
  have F9 := fun_mk (st := s_place_in_tree) l9 c9 k9
  have F10 := fun_mk (st := s_law_source) l10 c10 k10
  have F11 := fun_mk (st := s_law_draw) l11 c11 k11
  have F12 := fun_mk (st := s_law_word_of) l12 c12 k12
  have F13 := fun_mk (st := s_law_told) l13 c13 k13
  have F14 := fun_mk (st := s_law) l14 c14 k14
  refine ⟨PySem.W.fnOf "law" "law" (defArgs s_law) (defBody s_law) (defScope s_law) .none kV14 dc14 pm14 an14 cd14 ct14, fun s v => .of_eq rfl, fun base _ _ => ?_⟩
  have e_GoesError : clsA mg "GoesError" = C_GoesError := clsA_of (PySem.W.mg_of X G g_GoesError)
  have e_InvalidNumber : clsA mg "InvalidNumber" = C_InvalidNumber := clsA_of (PySem.W.mg_of X G g_InvalidNumber)
  have e_InvalidPermutation : clsA mg "InvalidPermutation" = C_InvalidPermutation := clsA_of (PySem.W.mg_of X G g_InvalidPermutation)
  have e_InvalidPermutations : clsA mg "InvalidPermutations" = C_InvalidPermutations := clsA_of (PySem.W.mg_of X G g_InvalidPermutations)
  have e_OtherSize : clsA mg "OtherSize" = C_OtherSize := clsA_of (PySem.W.mg_of X G g_OtherSize)
  have e_InvalidRow : clsA mg "InvalidRow" = C_InvalidRow := clsA_of (PySem.W.mg_of X G g_InvalidRow)
  have e_InvalidRule : clsA mg "InvalidRule" = C_InvalidRule := clsA_of (PySem.W.mg_of X G g_InvalidRule)
  have e_TooMany : clsA mg "TooMany" = C_TooMany := clsA_of (PySem.W.mg_of X G g_TooMany)
  have e_InvalidStream : clsA mg "InvalidStream" = C_InvalidStream := clsA_of (PySem.W.mg_of X G g_InvalidStream)
  have e_InvalidWide : clsA mg "InvalidWide" = C_InvalidWide := clsA_of (PySem.W.mg_of X G g_InvalidWide)
  have e_InvalidTable : clsA mg "InvalidTable" = C_InvalidTable := clsA_of (PySem.W.mg_of X G g_InvalidTable)
  have e_InvalidRules : clsA mg "InvalidRules" = C_InvalidRules := clsA_of (PySem.W.mg_of X G g_InvalidRules)
  have e_InvalidRows : clsA mg "InvalidRows" = C_InvalidRows := clsA_of (PySem.W.mg_of X G g_InvalidRows)
  have e_InvalidOutcomes : clsA mg "InvalidOutcomes" = C_InvalidOutcomes := clsA_of (PySem.W.mg_of X G g_InvalidOutcomes)
  have e_InvalidBlock : clsA mg "InvalidBlock" = C_InvalidBlock := clsA_of (PySem.W.mg_of X G g_InvalidBlock)
  have T_InvalidNumber : OwC K mg "InvalidNumber" (clsA mg "InvalidNumber") := by
    rw [e_InvalidNumber]
    exact ⟨PySem.W.mg_of X G g_InvalidNumber, q_InvalidNumber, kp_InvalidNumber, be_InvalidNumber, ty_InvalidNumber⟩
  have X_InvalidNumber : mg "InvalidNumber" = some (.ref (clsA mg "InvalidNumber")) := by
    rw [e_InvalidNumber]
    exact PySem.W.mg_of X G g_InvalidNumber
  have X_InvalidPermutation : mg "InvalidPermutation" = some (.ref (clsA mg "InvalidPermutation")) := by
    rw [e_InvalidPermutation]
    exact PySem.W.mg_of X G g_InvalidPermutation
  have X_InvalidPermutations : mg "InvalidPermutations" = some (.ref (clsA mg "InvalidPermutations")) := by
    rw [e_InvalidPermutations]
    exact PySem.W.mg_of X G g_InvalidPermutations
  have X_OtherSize : mg "OtherSize" = some (.ref (clsA mg "OtherSize")) := by
    rw [e_OtherSize]
    exact PySem.W.mg_of X G g_OtherSize
  have X_InvalidRow : mg "InvalidRow" = some (.ref (clsA mg "InvalidRow")) := by
    rw [e_InvalidRow]
    exact PySem.W.mg_of X G g_InvalidRow
  have X_InvalidRule : mg "InvalidRule" = some (.ref (clsA mg "InvalidRule")) := by
    rw [e_InvalidRule]
    exact PySem.W.mg_of X G g_InvalidRule
  have X_TooMany : mg "TooMany" = some (.ref (clsA mg "TooMany")) := by
    rw [e_TooMany]
    exact PySem.W.mg_of X G g_TooMany
  have X_InvalidStream : mg "InvalidStream" = some (.ref (clsA mg "InvalidStream")) := by
    rw [e_InvalidStream]
    exact PySem.W.mg_of X G g_InvalidStream
  have X_InvalidWide : mg "InvalidWide" = some (.ref (clsA mg "InvalidWide")) := by
    rw [e_InvalidWide]
    exact PySem.W.mg_of X G g_InvalidWide
  have X_InvalidTable : mg "InvalidTable" = some (.ref (clsA mg "InvalidTable")) := by
    rw [e_InvalidTable]
    exact PySem.W.mg_of X G g_InvalidTable
  have X_InvalidRules : mg "InvalidRules" = some (.ref (clsA mg "InvalidRules")) := by
    rw [e_InvalidRules]
    exact PySem.W.mg_of X G g_InvalidRules
  have X_InvalidRows : mg "InvalidRows" = some (.ref (clsA mg "InvalidRows")) := by
    rw [e_InvalidRows]
    exact PySem.W.mg_of X G g_InvalidRows
  have X_InvalidOutcomes : mg "InvalidOutcomes" = some (.ref (clsA mg "InvalidOutcomes")) := by
    rw [e_InvalidOutcomes]
    exact PySem.W.mg_of X G g_InvalidOutcomes
  have X_InvalidBlock : mg "InvalidBlock" = some (.ref (clsA mg "InvalidBlock")) := by
    rw [e_InvalidBlock]
    exact PySem.W.mg_of X G g_InvalidBlock
  have X_GoesError : mg "GoesError" = some (.ref (clsA mg "GoesError")) := by
    rw [e_GoesError]
    exact PySem.W.mg_of X G g_GoesError
  have ek : ErrK K mg RSl TSl FSl := ⟨List.forall_mem_cons.mpr ⟨List.forall_mem_cons.mpr ⟨(by rw [e_InvalidNumber, show decide (("InvalidNumber" : Str) = "InvalidNumber") = true by decide]; exact kit_ref hd_InvalidNumber ty_InvalidNumber (fun _ => rfl) s_InvalidNumber_InvalidNumber), List.forall_mem_cons.mpr ⟨(by rw [e_InvalidNumber, e_InvalidPermutation, show decide (("InvalidNumber" : Str) = "InvalidPermutation") = false by decide]; exact kit_ref hd_InvalidPermutation ty_InvalidPermutation (fun z => by have q := s_InvalidNumber_InvalidPermutation; rw [← z, s_InvalidNumber_InvalidNumber] at q; cases q) s_InvalidNumber_InvalidPermutation), List.forall_mem_cons.mpr ⟨(by rw [e_InvalidNumber, e_InvalidPermutations, show decide (("InvalidNumber" : Str) = "InvalidPermutations") = false by decide]; exact kit_ref hd_InvalidPermutations ty_InvalidPermutations (fun z => by have q := s_InvalidNumber_InvalidPermutations; rw [← z, s_InvalidNumber_InvalidNumber] at q; cases q) s_InvalidNumber_InvalidPermutations), List.forall_mem_cons.mpr ⟨(by rw [e_InvalidNumber, e_OtherSize, show decide (("InvalidNumber" : Str) = "OtherSize") = false by decide]; exact kit_ref hd_OtherSize ty_OtherSize (fun z => by have q := s_InvalidNumber_OtherSize; rw [← z, s_InvalidNumber_InvalidNumber] at q; cases q) s_InvalidNumber_OtherSize), List.forall_mem_cons.mpr ⟨(by rw [e_InvalidNumber, e_InvalidRow, show decide (("InvalidNumber" : Str) = "InvalidRow") = false by decide]; exact kit_ref hd_InvalidRow ty_InvalidRow (fun z => by have q := s_InvalidNumber_InvalidRow; rw [← z, s_InvalidNumber_InvalidNumber] at q; cases q) s_InvalidNumber_InvalidRow), List.forall_mem_cons.mpr ⟨(by rw [e_InvalidNumber, e_InvalidRule, show decide (("InvalidNumber" : Str) = "InvalidRule") = false by decide]; exact kit_ref hd_InvalidRule ty_InvalidRule (fun z => by have q := s_InvalidNumber_InvalidRule; rw [← z, s_InvalidNumber_InvalidNumber] at q; cases q) s_InvalidNumber_InvalidRule), List.forall_mem_cons.mpr ⟨(by rw [e_InvalidNumber, e_TooMany, show decide (("InvalidNumber" : Str) = "TooMany") = false by decide]; exact kit_ref hd_TooMany ty_TooMany (fun z => by have q := s_InvalidNumber_TooMany; rw [← z, s_InvalidNumber_InvalidNumber] at q; cases q) s_InvalidNumber_TooMany), List.forall_mem_cons.mpr ⟨(by rw [e_InvalidNumber, e_InvalidStream, show decide (("InvalidNumber" : Str) = "InvalidStream") = false by decide]; exact kit_ref hd_InvalidStream ty_InvalidStream (fun z => by have q := s_InvalidNumber_InvalidStream; rw [← z, s_InvalidNumber_InvalidNumber] at q; cases q) s_InvalidNumber_InvalidStream), List.forall_mem_cons.mpr ⟨(by rw [e_InvalidNumber, e_InvalidWide, show decide (("InvalidNumber" : Str) = "InvalidWide") = false by decide]; exact kit_ref hd_InvalidWide ty_InvalidWide (fun z => by have q := s_InvalidNumber_InvalidWide; rw [← z, s_InvalidNumber_InvalidNumber] at q; cases q) s_InvalidNumber_InvalidWide), List.forall_mem_cons.mpr ⟨(by rw [e_InvalidNumber, e_InvalidTable, show decide (("InvalidNumber" : Str) = "InvalidTable") = false by decide]; exact kit_ref hd_InvalidTable ty_InvalidTable (fun z => by have q := s_InvalidNumber_InvalidTable; rw [← z, s_InvalidNumber_InvalidNumber] at q; cases q) s_InvalidNumber_InvalidTable), List.forall_mem_cons.mpr ⟨(by rw [e_InvalidNumber, e_InvalidRules, show decide (("InvalidNumber" : Str) = "InvalidRules") = false by decide]; exact kit_ref hd_InvalidRules ty_InvalidRules (fun z => by have q := s_InvalidNumber_InvalidRules; rw [← z, s_InvalidNumber_InvalidNumber] at q; cases q) s_InvalidNumber_InvalidRules), List.forall_mem_cons.mpr ⟨(by rw [e_InvalidNumber, e_InvalidRows, show decide (("InvalidNumber" : Str) = "InvalidRows") = false by decide]; exact kit_ref hd_InvalidRows ty_InvalidRows (fun z => by have q := s_InvalidNumber_InvalidRows; rw [← z, s_InvalidNumber_InvalidNumber] at q; cases q) s_InvalidNumber_InvalidRows), List.forall_mem_cons.mpr ⟨(by rw [e_InvalidNumber, e_InvalidOutcomes, show decide (("InvalidNumber" : Str) = "InvalidOutcomes") = false by decide]; exact kit_ref hd_InvalidOutcomes ty_InvalidOutcomes (fun z => by have q := s_InvalidNumber_InvalidOutcomes; rw [← z, s_InvalidNumber_InvalidNumber] at q; cases q) s_InvalidNumber_InvalidOutcomes), List.forall_mem_cons.mpr ⟨(by rw [e_InvalidNumber, e_InvalidBlock, show decide (("InvalidNumber" : Str) = "InvalidBlock") = false by decide]; exact kit_ref hd_InvalidBlock ty_InvalidBlock (fun z => by have q := s_InvalidNumber_InvalidBlock; rw [← z, s_InvalidNumber_InvalidNumber] at q; cases q) s_InvalidNumber_InvalidBlock), fun _ h => absurd h List.not_mem_nil⟩⟩⟩⟩⟩⟩⟩⟩⟩⟩⟩⟩⟩⟩, fun _ h => absurd h List.not_mem_nil⟩, List.forall_mem_cons.mpr ⟨(by rw [e_InvalidNumber]; exact kit_ve ve_InvalidNumber), fun _ h => absurd h List.not_mem_nil⟩, List.forall_mem_cons.mpr ⟨(by rw [e_InvalidNumber]; exact ⟨ga_InvalidNumber, gg_InvalidNumber, be_InvalidNumber, hd_InvalidNumber, ca_InvalidNumber, xsp, xtk, mo_InvalidNumber⟩), fun _ h => absurd h List.not_mem_nil⟩, List.forall_mem_cons.mpr ⟨(by rw [e_InvalidNumber, e_GoesError]; exact PySem.W.exm_ref be_GoesError hd_GoesError ty_GoesError s_InvalidNumber_GoesError), fun _ h => absurd h List.not_mem_nil⟩, fun _ h => absurd h List.not_mem_nil⟩
  have O_is_integer := ok_is_integer (P := l.prog) (w := w) (mg := mg) (base := base) F0 (PySem.W.mg_none_of X G z_isinstance) (PySem.W.mg_none_of X G z_int) (PySem.W.mg_none_of X G z_bool)
  have C_is_integer : CalG l.prog w K mg base 1 "is_integer" f0 _ ["value"] (spD K spec_is_integer) := ⟨O_is_integer, PySem.W.mg_of X G a0, k0, F0.binds (ps := ["value"]) fun _ _ _ _ _ _ us hl => match us, hl with | [_], _ => rfl⟩
  have O_place_raised := ok_place_raised (P := l.prog) (w := w) (mg := mg) (base := base) F7 
  have C_place_raised : CalG l.prog w K mg base 1 "_place_raised" f7 _ ["place", "hit", "target"] (spD K spec_place_raised) := ⟨O_place_raised, PySem.W.mg_of X G a7, k7, F7.binds (ps := ["place", "hit", "target"]) fun _ _ _ _ _ _ us hl => match us, hl with | [_, _, _], _ => rfl⟩
  have O_place_in_tree := ok_place_in_tree (P := l.prog) (w := w) (mg := mg) (base := base) F9 
  have C_place_in_tree : CalG l.prog w K mg base 1 "_place_in_tree" f9 _ ["place", "hit", "k"] (spD K spec_place_in_tree) := ⟨O_place_in_tree, PySem.W.mg_of X G a9, k9, F9.binds (ps := ["place", "hit", "k"]) fun _ _ _ _ _ _ us hl => match us, hl with | [_, _, _], _ => rfl⟩
  have O_law_source := ok_law_source (P := l.prog) (w := w) (mg := mg) (base := base) F10 (PySem.W.mg_none_of X G z_int) (PySem.W.mg_none_of X G z_abs) (PySem.W.mg_none_of X G z_max)
  have C_law_source : CalG l.prog w K mg base 1 "_law_source" f10 _ ["_law_cell", "_law_nth"] (spD K spec_law_source) := ⟨O_law_source, PySem.W.mg_of X G a10, k10, F10.binds (ps := ["_law_cell", "_law_nth"]) fun _ _ _ _ _ _ us hl => match us, hl with | [_, _], _ => rfl⟩
  have O_law_draw := ok_law_draw (P := l.prog) (w := w) (mg := mg) (base := base) F11 (PySem.W.mg_none_of X G z_int)
  have C_law_draw : CalG l.prog w K mg base 1 "_law_draw" f11 _ ["_law_source_here", "_law_many"] (spD K spec_law_draw) := ⟨O_law_draw, PySem.W.mg_of X G a11, k11, F11.binds (ps := ["_law_source_here", "_law_many"]) fun _ _ _ _ _ _ us hl => match us, hl with | [_, _], _ => rfl⟩
  have EO_law_word_of := ek_law_word_of (P := l.prog) (w := w) (mg := mg) (base := base) F12 X_InvalidNumber X_InvalidPermutation X_InvalidPermutations X_OtherSize X_InvalidRow X_InvalidRule X_TooMany X_InvalidStream X_InvalidWide X_InvalidTable X_InvalidRules X_InvalidRows X_InvalidOutcomes X_InvalidBlock ek (PySem.W.mg_none_of X G z_isinstance) (PySem.W.mg_none_of X G z_len) (PySem.W.mg_none_of X G z_ValueError)
  have EC_law_word_of : CalE l.prog w K mg base 1 "_law_word_of" f12 _ ["_law_e"] (spE K (es_law_word_of mg)) := ⟨EO_law_word_of, PySem.W.mg_of X G a12, k12, F12.binds (ps := ["_law_e"]) fun _ _ _ _ _ _ us hl => match us, hl with | [_], _ => rfl⟩
  have O_check_k := ok_check_k (P := l.prog) (w := w) (mg := mg) (base := base) F1 C_is_integer
  have C_check_k : CalG l.prog w K mg base 2 "_check_k" f1 _ ["k"] (spD K spec_check_k) := ⟨O_check_k, PySem.W.mg_of X G a1, k1, F1.binds (ps := ["k"]) fun _ _ _ _ _ _ us hl => match us, hl with | [_], _ => rfl⟩
  have XO_check_k := xk_check_k (P := l.prog) (w := w) (mg := mg) (base := base) F1 C_is_integer T_InvalidNumber
  have Y_check_k : CalX l.prog w K mg base 2 "_check_k" f1 _ ["k"] (spM K spec_check_k (xs_check_k mg)) := ⟨FnG.or (FnG.cx O_check_k) XO_check_k, PySem.W.mg_of X G a1, k1, F1.binds (ps := ["k"]) fun _ _ _ _ _ _ us hl => match us, hl with | [_], _ => rfl⟩
  have O_are_targets := ok_are_targets (P := l.prog) (w := w) (mg := mg) (base := base) F6 C_is_integer (PySem.W.mg_none_of X G z_isinstance) (PySem.W.mg_none_of X G z_list) (PySem.W.mg_none_of X G z_len) (PySem.W.mg_none_of X G z_all) (PySem.W.mg_none_of X G z_enumerate)
  have C_are_targets : CalG l.prog w K mg base 2 "_are_targets" f6 _ ["value"] (spD K spec_are_targets) := ⟨O_are_targets, PySem.W.mg_of X G a6, k6, F6.binds (ps := ["value"]) fun _ _ _ _ _ _ us hl => match us, hl with | [_], _ => rfl⟩
  have O_tree := ok_tree (P := l.prog) (w := w) (mg := mg) (base := base) F8 C_is_integer C_place_in_tree (PySem.W.mg_none_of X G z_range)
  have C_tree : CalG l.prog w K mg base 2 "tree" f8 _ ["k"] (spD K spec_tree) := ⟨O_tree, PySem.W.mg_of X G a8, k8, F8.binds (ps := ["k"]) fun _ _ _ _ _ _ us hl => match us, hl with | [_], _ => rfl⟩
  have XO_tree := xk_tree (P := l.prog) (w := w) (mg := mg) (base := base) F8 C_is_integer C_place_in_tree T_InvalidNumber (PySem.W.mg_none_of X G z_range)
  have Y_tree : CalX l.prog w K mg base 2 "tree" f8 _ ["k"] (spM K spec_tree (xs_tree mg)) := ⟨FnG.or (FnG.cx O_tree) XO_tree, PySem.W.mg_of X G a8, k8, F8.binds (ps := ["k"]) fun _ _ _ _ _ _ us hl => match us, hl with | [_], _ => rfl⟩
  have O_raised := ok_raised (P := l.prog) (w := w) (mg := mg) (base := base) F5 C_are_targets C_place_raised (PySem.W.mg_none_of X G z_len) (PySem.W.mg_none_of X G z_enumerate) (PySem.W.mg_none_of X G z_range)
  have C_raised : CalG l.prog w K mg base 3 "raised" f5 _ ["targets"] (spD K spec_raised) := ⟨O_raised, PySem.W.mg_of X G a5, k5, F5.binds (ps := ["targets"]) fun _ _ _ _ _ _ us hl => match us, hl with | [_], _ => rfl⟩
  have XO_raised := xk_raised (P := l.prog) (w := w) (mg := mg) (base := base) F5 C_are_targets C_place_raised T_InvalidNumber (PySem.W.mg_none_of X G z_len) (PySem.W.mg_none_of X G z_enumerate) (PySem.W.mg_none_of X G z_range)
  have Y_raised : CalX l.prog w K mg base 3 "raised" f5 _ ["targets"] (spM K spec_raised (xs_raised mg)) := ⟨FnG.or (FnG.cx O_raised) XO_raised, PySem.W.mg_of X G a5, k5, F5.binds (ps := ["targets"]) fun _ _ _ _ _ _ us hl => match us, hl with | [_], _ => rfl⟩
  have O_first_in := ok_first_in (P := l.prog) (w := w) (mg := mg) (base := base) F2 C_check_k C_raised (PySem.W.mg_none_of X G z_list) (PySem.W.mg_none_of X G z_range)
  have C_first_in : CalG l.prog w K mg base 4 "first_in" f2 _ ["k"] (spD K spec_first_in) := ⟨O_first_in, PySem.W.mg_of X G a2, k2, F2.binds (ps := ["k"]) fun _ _ _ _ _ _ us hl => match us, hl with | [_], _ => rfl⟩
  have XO_first_in := xk_first_in (P := l.prog) (w := w) (mg := mg) (base := base) F2 Y_check_k Y_raised (PySem.W.mg_none_of X G z_list) (PySem.W.mg_none_of X G z_range)
  have Y_first_in : CalX l.prog w K mg base 4 "first_in" f2 _ ["k"] (spM K spec_first_in (xs_first_in mg)) := ⟨FnG.or (FnG.cx O_first_in) XO_first_in, PySem.W.mg_of X G a2, k2, F2.binds (ps := ["k"]) fun _ _ _ _ _ _ us hl => match us, hl with | [_], _ => rfl⟩
  have O_last_used := ok_last_used (P := l.prog) (w := w) (mg := mg) (base := base) F3 C_check_k C_raised (PySem.W.mg_none_of X G z_range)
  have C_last_used : CalG l.prog w K mg base 4 "last_used" f3 _ ["k"] (spD K spec_last_used) := ⟨O_last_used, PySem.W.mg_of X G a3, k3, F3.binds (ps := ["k"]) fun _ _ _ _ _ _ us hl => match us, hl with | [_], _ => rfl⟩
  have XO_last_used := xk_last_used (P := l.prog) (w := w) (mg := mg) (base := base) F3 Y_check_k Y_raised (PySem.W.mg_none_of X G z_range)
  have Y_last_used : CalX l.prog w K mg base 4 "last_used" f3 _ ["k"] (spM K spec_last_used (xs_last_used mg)) := ⟨FnG.or (FnG.cx O_last_used) XO_last_used, PySem.W.mg_of X G a3, k3, F3.binds (ps := ["k"]) fun _ _ _ _ _ _ us hl => match us, hl with | [_], _ => rfl⟩
  have O_climbing := ok_climbing (P := l.prog) (w := w) (mg := mg) (base := base) F4 C_check_k C_raised (PySem.W.mg_none_of X G z_range) (PySem.W.mg_none_of X G z_min)
  have C_climbing : CalG l.prog w K mg base 4 "climbing" f4 _ ["k"] (spD K spec_climbing) := ⟨O_climbing, PySem.W.mg_of X G a4, k4, F4.binds (ps := ["k"]) fun _ _ _ _ _ _ us hl => match us, hl with | [_], _ => rfl⟩
  have XO_climbing := xk_climbing (P := l.prog) (w := w) (mg := mg) (base := base) F4 Y_check_k Y_raised (PySem.W.mg_none_of X G z_range) (PySem.W.mg_none_of X G z_min)
  have Y_climbing : CalX l.prog w K mg base 4 "climbing" f4 _ ["k"] (spM K spec_climbing (xs_climbing mg)) := ⟨FnG.or (FnG.cx O_climbing) XO_climbing, PySem.W.mg_of X G a4, k4, F4.binds (ps := ["k"]) fun _ _ _ _ _ _ us hl => match us, hl with | [_], _ => rfl⟩
  have O_law_told := ok_law_told (P := l.prog) (w := w) (mg := mg) (base := base) F13 Y_first_in Y_last_used Y_climbing Y_tree Y_raised EC_law_word_of X_GoesError ek
  have C_law_told : CalG l.prog w K mg base 5 "_law_told" f13 _ ["_law_way", "_law_given"] (spD K spec_law_told) := ⟨O_law_told, PySem.W.mg_of X G a13, k13, F13.binds (ps := ["_law_way", "_law_given"]) fun _ _ _ _ _ _ us hl => match us, hl with | [_, _], _ => rfl⟩
  have O_law := ok_law (P := l.prog) (w := w) (mg := mg) (base := base) F14 C_law_told C_law_source C_law_draw (PySem.W.mg_none_of X G z_range) (PySem.W.mg_none_of X G z_max) (PySem.W.mg_none_of X G z_min) (PySem.W.mg_none_of X G z_len) (PySem.W.mg_none_of X G z_repr) (PySem.W.mg_none_of X G z_list) (PySem.W.mg_none_of X G z_tuple)
  exact law_G O_law
end Law
open PySem PySem.W PyProof.Rows
set_option maxRecDepth 100000 in
set_option maxHeartbeats 0 in
theorem PySem.Challenge.cw_goesnext_k14_errors_of_rules_holds : PySem.Challenge.rw_goesnext_k14_errors_of_rules.Holds := by
  w_on; o_law; k_head; (case hw => w_witness2)
  k_fill
  refine DL.walkG (l := PySem.Challenge.rw_goesnext_k14_errors_of_rules) (k := 6) (x := "_law_script") rfl rfl ⟨rfl, by decide, by decide⟩ (fun w h Y => PySem.W.kIn_of Y) ?F
  case F =>
    intro w mg fa h KX G hmg
    refine' Law.all_mk KX G hmg ?a0 ?l0 ?c0 ?k0 ?a1 ?l1 ?c1 ?k1 ?a2 ?l2 ?c2 ?k2 ?a3 ?l3 ?c3 ?k3 ?a4 ?l4 ?c4 ?k4 ?a5 ?l5 ?c5 ?k5 ?a6 ?l6 ?c6 ?k6 ?a7 ?l7 ?c7 ?k7 ?a8 ?l8 ?c8 ?k8 ?a9 ?l9 ?c9 ?k9 ?a10 ?l10 ?c10 ?k10 ?a11 ?l11 ?c11 ?k11 ?a12 ?l12 ?c12 ?k12 ?a13 ?l13 ?c13 ?k13 ?a14 ?l14 ?c14 ?k14 ?z_ValueError ?z_abs ?z_all ?z_bool ?z_enumerate ?z_int ?z_isinstance ?z_len ?z_list ?z_max ?z_min ?z_range ?z_repr ?z_tuple ?g_GoesError ?g_InvalidNumber ?g_InvalidPermutation ?g_InvalidPermutations ?g_OtherSize ?g_InvalidRow ?g_InvalidRule ?g_TooMany ?g_InvalidStream ?g_InvalidWide ?g_InvalidTable ?g_InvalidRules ?g_InvalidRows ?g_InvalidOutcomes ?g_InvalidBlock ?hd_GoesError ?ty_GoesError ?hd_InvalidNumber ?ty_InvalidNumber ?hd_InvalidPermutation ?ty_InvalidPermutation ?hd_InvalidPermutations ?ty_InvalidPermutations ?hd_OtherSize ?ty_OtherSize ?hd_InvalidRow ?ty_InvalidRow ?hd_InvalidRule ?ty_InvalidRule ?hd_TooMany ?ty_TooMany ?hd_InvalidStream ?ty_InvalidStream ?hd_InvalidWide ?ty_InvalidWide ?hd_InvalidTable ?ty_InvalidTable ?hd_InvalidRules ?ty_InvalidRules ?hd_InvalidRows ?ty_InvalidRows ?hd_InvalidOutcomes ?ty_InvalidOutcomes ?hd_InvalidBlock ?ty_InvalidBlock ?be_GoesError ?be_InvalidNumber ?xsp ?xtk ?ve_InvalidNumber ?ga_InvalidNumber ?gg_InvalidNumber ?ca_InvalidNumber ?mo_InvalidNumber ?kp_InvalidNumber ?s_InvalidNumber_InvalidNumber ?s_InvalidNumber_GoesError ?s_InvalidNumber_InvalidPermutation ?s_InvalidNumber_InvalidPermutations ?s_InvalidNumber_OtherSize ?s_InvalidNumber_InvalidRow ?s_InvalidNumber_InvalidRule ?s_InvalidNumber_TooMany ?s_InvalidNumber_InvalidStream ?s_InvalidNumber_InvalidWide ?s_InvalidNumber_InvalidTable ?s_InvalidNumber_InvalidRules ?s_InvalidNumber_InvalidRows ?s_InvalidNumber_InvalidOutcomes ?s_InvalidNumber_InvalidBlock ?q_InvalidNumber
    (case a0 => k_is)
    (case l0 => k_is)
    (case c0 => k_is)
    (case k0 => k_is)
    (case a1 => k_is)
    (case l1 => k_is)
    (case c1 => k_is)
    (case k1 => k_is)
    (case a2 => k_is)
    (case l2 => k_is)
    (case c2 => k_is)
    (case k2 => k_is)
    (case a3 => k_is)
    (case l3 => k_is)
    (case c3 => k_is)
    (case k3 => k_is)
    (case a4 => k_is)
    (case l4 => k_is)
    (case c4 => k_is)
    (case k4 => k_is)
    (case a5 => k_is)
    (case l5 => k_is)
    (case c5 => k_is)
    (case k5 => k_is)
    (case a6 => k_is)
    (case l6 => k_is)
    (case c6 => k_is)
    (case k6 => k_is)
    (case a7 => k_is)
    (case l7 => k_is)
    (case c7 => k_is)
    (case k7 => k_is)
    (case a8 => k_is)
    (case l8 => k_is)
    (case c8 => k_is)
    (case k8 => k_is)
    (case a9 => k_is)
    (case l9 => k_is)
    (case c9 => k_is)
    (case k9 => k_is)
    (case a10 => k_is)
    (case l10 => k_is)
    (case c10 => k_is)
    (case k10 => k_is)
    (case a11 => k_is)
    (case l11 => k_is)
    (case c11 => k_is)
    (case k11 => k_is)
    (case a12 => k_is)
    (case l12 => k_is)
    (case c12 => k_is)
    (case k12 => k_is)
    (case a13 => k_is)
    (case l13 => k_is)
    (case c13 => k_is)
    (case k13 => k_is)
    (case a14 => k_is)
    (case l14 => k_is)
    (case c14 => k_is)
    (case k14 => k_is)
    (case z_ValueError => k_is)
    (case z_abs => k_is)
    (case z_all => k_is)
    (case z_bool => k_is)
    (case z_enumerate => k_is)
    (case z_int => k_is)
    (case z_isinstance => k_is)
    (case z_len => k_is)
    (case z_list => k_is)
    (case z_max => k_is)
    (case z_min => k_is)
    (case z_range => k_is)
    (case z_repr => k_is)
    (case z_tuple => k_is)
    (case g_GoesError => k_is)
    (case g_InvalidNumber => k_is)
    (case g_InvalidPermutation => k_is)
    (case g_InvalidPermutations => k_is)
    (case g_OtherSize => k_is)
    (case g_InvalidRow => k_is)
    (case g_InvalidRule => k_is)
    (case g_TooMany => k_is)
    (case g_InvalidStream => k_is)
    (case g_InvalidWide => k_is)
    (case g_InvalidTable => k_is)
    (case g_InvalidRules => k_is)
    (case g_InvalidRows => k_is)
    (case g_InvalidOutcomes => k_is)
    (case g_InvalidBlock => k_is)
    (case hd_GoesError => k_is)
    (case ty_GoesError => k_is)
    (case hd_InvalidNumber => k_is)
    (case ty_InvalidNumber => k_is)
    (case hd_InvalidPermutation => k_is)
    (case ty_InvalidPermutation => k_is)
    (case hd_InvalidPermutations => k_is)
    (case ty_InvalidPermutations => k_is)
    (case hd_OtherSize => k_is)
    (case ty_OtherSize => k_is)
    (case hd_InvalidRow => k_is)
    (case ty_InvalidRow => k_is)
    (case hd_InvalidRule => k_is)
    (case ty_InvalidRule => k_is)
    (case hd_TooMany => k_is)
    (case ty_TooMany => k_is)
    (case hd_InvalidStream => k_is)
    (case ty_InvalidStream => k_is)
    (case hd_InvalidWide => k_is)
    (case ty_InvalidWide => k_is)
    (case hd_InvalidTable => k_is)
    (case ty_InvalidTable => k_is)
    (case hd_InvalidRules => k_is)
    (case ty_InvalidRules => k_is)
    (case hd_InvalidRows => k_is)
    (case ty_InvalidRows => k_is)
    (case hd_InvalidOutcomes => k_is)
    (case ty_InvalidOutcomes => k_is)
    (case hd_InvalidBlock => k_is)
    (case ty_InvalidBlock => k_is)
    (case be_GoesError => k_is)
    (case be_InvalidNumber => k_is)
    (case xsp => k_is)
    (case xtk => k_is)
    (case ve_InvalidNumber => k_is)
    (case ga_InvalidNumber => k_is)
    (case gg_InvalidNumber => k_is)
    (case ca_InvalidNumber => k_is)
    (case mo_InvalidNumber => k_is)
    (case kp_InvalidNumber => k_is)
    (case s_InvalidNumber_InvalidNumber => first | rfl | k_is)
    (case s_InvalidNumber_GoesError => k_is)
    (case s_InvalidNumber_InvalidPermutation => k_is)
    (case s_InvalidNumber_InvalidPermutations => k_is)
    (case s_InvalidNumber_OtherSize => k_is)
    (case s_InvalidNumber_InvalidRow => k_is)
    (case s_InvalidNumber_InvalidRule => k_is)
    (case s_InvalidNumber_TooMany => k_is)
    (case s_InvalidNumber_InvalidStream => k_is)
    (case s_InvalidNumber_InvalidWide => k_is)
    (case s_InvalidNumber_InvalidTable => k_is)
    (case s_InvalidNumber_InvalidRules => k_is)
    (case s_InvalidNumber_InvalidRows => k_is)
    (case s_InvalidNumber_InvalidOutcomes => k_is)
    (case s_InvalidNumber_InvalidBlock => k_is)
    (case q_InvalidNumber => k_exc)

