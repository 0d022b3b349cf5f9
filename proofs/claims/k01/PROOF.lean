import PyProof.Rows.All
import Wide.All
import OpenK.AllK
import Wide.FinOn
import HandS.ForMost
import HandS.Walk
import HandS.Wide
import HandS.Gcd
import HandS.Property
import HandS.Star
import HandS.IsInst
import HandS.OwnEq
import HandS.Style
import HandS.Defaults
import HandS.MakeKw
import HandS.MakeKwOnly
import KE.KMathG
import HandS.DictComp
import HandS.SortInts
import HandS.SortKw
import HandS.TryOnly
import PySem.Challenge.RW_boxrows_k01_boxes_at_levels
set_option Elab.async false
set_option linter.all false
set_option maxRecDepth 100000
set_option maxHeartbeats 4000000
/-! Z1: data without addresses (D), a store of mutable lists (cells), what represents them on the abstract heap, and readings over them (ZE, ZT, ZA, ZS) that the layer's readings refine. -/
namespace Z
open PySem L2

/-- data: what a value is, all the way down; cell n: the n-th mutable object; scr: the script; ins: an instance that never changes -/
inductive D where
  | non | bl (b : Bool) | int (i : Int) | str (x : Str) | ty (n : String)
  | tup (ds : List D) | lst (ds : List D) | ins (c : Nat) (ds : List D) | cell (n : Nat) | scr (ns : List Int) | cls (c : Nat) | dct (ks : List Int) (ds : List D)
/-- what a cell holds -/
inductive O where
  | lst (ds : List D)
  | ins (c : Nat) (fs : List (Str × D))
  | dct (ks : List Int) (ds : List D)
abbrev Store := List O
/-- the classes: where each stands, its attributes in order -/
structure CI where
  adr : Nat → Addr
  nms : Nat → List Str

section
variable (K : PySem.W.Frag) (C : CI) (S A : List Addr) (H : Hp)
mutual
inductive Rep : V → D → Prop where
  | non : Rep .non .non
  | bl (b : Bool) : Rep (.bl b) (.bl b)
  | int (i : Int) : Rep (.int i) (.int i)
  | str (x : Str) : Rep (.str x) (.str x)
  | ty (n : String) : Rep (.ty n) (.ty n)
  | tup {a : Addr} {xs : List V} {ds : List D} (h : H a = some (.tup xs)) (hA : a ∉ A) (hS : a ∉ S) (r : RepL xs ds) : Rep (.ref a) (.tup ds)
  | lst {a : Addr} {xs : List V} {ds : List D} (h : H a = some (.lst xs)) (hA : a ∉ A) (hS : a ∉ S) (r : RepL xs ds) : Rep (.ref a) (.lst ds)
  | ins {a dx : Addr} {c : Nat} {xs : List V} {ds : List D} (h : H a = some (.ins (C.adr c) dx ((C.nms c).zip xs))) (hA : a ∉ A) (hS : a ∉ S) (hl : xs.length = (C.nms c).length) (r : RepL xs ds) : Rep (.ref a) (.ins c ds)
  | cell {a : Addr} {n : Nat} (h : A[n]? = some a) : Rep (.ref a) (.cell n)
  | dct {a : Addr} {ks : List Int} {xs : List V} {ds : List D} (h : H a = some (.dK ((ks.map Sum.inl).zip xs))) (hA : a ∉ A) (hS : a ∉ S) (hl : xs.length = ks.length) (r : RepL xs ds) : Rep (.ref a) (.dct ks ds)
  | cls (c : Nat) : Rep (.ref (C.adr c)) (.cls c)
  | scr {a : Addr} {ns : List Int} (h : (∃ o, H a = some (.frz o (.lst (ns.map V.int)))) ∧ a ∉ A ∧ a ∉ S ∨ (∃ (o : Obj) (its : Array Value) (n : Nat), K.lookup a = some o ∧ o.cls = .type "list" ∧ o.dict = none ∧ o.data = .seq its n ∧ its.size ≤ sizeLine ∧ Vals (ns.map V.int) its.toList)) : Rep (.ref a) (.scr ns)
inductive RepL : List V → List D → Prop where
  | nil : RepL [] []
  | cons {v : V} {vs : List V} {d : D} {ds : List D} (h : Rep v d) (r : RepL vs ds) : RepL (v :: vs) (d :: ds)
end
/-- what stands at a cell's address -/
def CellAt (a : Addr) : O → Prop
  | .lst ds => ∃ xs, H a = some (.lst xs) ∧ RepL K C S A H xs ds
  | .ins c fs => ∃ dx xs, H a = some (.ins (C.adr c) dx xs) ∧ xs.map (·.1) = fs.map (·.1) ∧ RepL K C S A H (xs.map (·.2)) (fs.map (·.2))
  | .dct ks ds => ∃ xs, H a = some (.dK ((ks.map Sum.inl).zip xs)) ∧ xs.length = ks.length ∧ RepL K C S A H xs ds
/-- cells: the n-th address holds the n-th content -/
structure Cells (Δ : Store) : Prop where
  len : A.length = Δ.length
  nd : A.Nodup
  dj : ∀ a ∈ A, a ∉ S
  as : ∀ a ∈ S, H a ≠ none
  at_ : ∀ (n : Nat) (a : Addr) (o : O), A[n]? = some a → Δ[n]? = some o → CellAt K C S A H a o
/-- slots -/
structure Slots (σ : L2.St) (Γ : List (Option D)) : Prop where
  len : σ.length = Γ.length
  at_ : ∀ (i : Nat) (d : D), Γ[i]? = some (some d) → ∃ v, σ[i]? = some (some v) ∧ Rep K C S A H v d
end
/-- the heap goes on: new cells B, all but the cells kept -/
structure Ext (A : List Addr) (H : Hp) (A' : List Addr) (H' : Hp) : Prop where
  pre : ∃ B, A' = A ++ B ∧ ∀ b ∈ B, H b = none
  keep : ∀ a o, a ∉ A → H a = some o → H' a = some o
  trk : ∀ a, H' a = none → H a = none

theorem Ext.refl (A : List Addr) (H : Hp) : Ext A H A H := ⟨⟨[], by simp, by simp⟩, fun _ _ _ h => h, fun _ h => h⟩
theorem Ext.trans {A A1 A2 : List Addr} {H H1 H2 : Hp} (e : Ext A H A1 H1) (f : Ext A1 H1 A2 H2) : Ext A H A2 H2 := by
  obtain ⟨B, hB, nB⟩ := e.pre
  obtain ⟨B', hB', nB'⟩ := f.pre
  refine ⟨⟨B ++ B', by rw [hB', hB, List.append_assoc], fun b hb => ?_⟩, fun a o ha h => ?_, fun a h => e.trk a (f.trk a h)⟩
  · rcases List.mem_append.mp hb with hb | hb
    · exact nB b hb
    · exact e.trk b (nB' b hb)
  · refine f.keep a o ?_ (e.keep a o ha h)
    rw [hB]
    intro hm
    rcases List.mem_append.mp hm with hm | hm
    · exact ha hm
    · rw [nB a hm] at h
      cases h
/-- a new object -/
theorem Ext.new {A : List Addr} {H : Hp} {p : Addr} {o : HO} (h : H p = none) : Ext A H A (upd H p o) := by
  refine ⟨⟨[], by simp, by simp⟩, fun a u _ e => by rw [upd_ne (ne_of_none e h)]; exact e, fun a e => ?_⟩
  by_cases q : a = p
  · subst q; exact h
  · rw [upd_ne q] at e; exact e
/-- a new object, made a cell -/
theorem Ext.newCell {A : List Addr} {H : Hp} {p : Addr} {o : HO} (h : H p = none) : Ext A H (A ++ [p]) (upd H p o) := by
  refine ⟨⟨[p], rfl, by simp [h]⟩, fun a u _ e => by rw [upd_ne (ne_of_none e h)]; exact e, fun a e => ?_⟩
  by_cases q : a = p
  · subst q; exact h
  · rw [upd_ne q] at e; exact e
/-- a cell is written -/
theorem Ext.write {A : List Addr} {H : Hp} {p : Addr} {o : HO} (hp : p ∈ A) (h : H p ≠ none) : Ext A H A (upd H p o) := by
  refine ⟨⟨[], by simp, by simp⟩, fun a u ha e => ?_, fun a e => ?_⟩
  · rw [upd_ne (fun q => ha (by rw [q]; exact hp))]; exact e
  · by_cases q : a = p
    · subst q; rw [upd_same] at e; cases e
    · rw [upd_ne q] at e; exact e
section
variable {K : PySem.W.Frag} {C : CI} {S S' A A' : List Addr} {H H' : Hp}
/-- the weakest going on that keeps what is represented -/
structure Mo (S A : List Addr) (H : Hp) (S' A' : List Addr) (H' : Hp) : Prop where
  pre : ∃ B, A' = A ++ B ∧ ∀ b ∈ B, H b = none
  sub : ∀ b ∈ S', b ∈ S ∨ H b = none
  keep : ∀ a o, a ∉ A → a ∉ S → H a = some o → H' a = some o
theorem Ext.mo (e : Ext A H A' H') : Mo S A H S A' H' := ⟨e.pre, fun _ h => .inl h, fun a o h1 _ h => e.keep a o h1 h⟩
theorem Mo.notA (m : Mo S A H S' A' H') {a : Addr} {o : HO} (ha : a ∉ A) (h : H a = some o) : a ∉ A' := by
  obtain ⟨B, hB, nB⟩ := m.pre
  rw [hB]
  intro hm
  rcases List.mem_append.mp hm with hm | hm
  · exact ha hm
  · rw [nB a hm] at h
    cases h
theorem Mo.notS (m : Mo S A H S' A' H') {a : Addr} {o : HO} (ha : a ∉ S) (h : H a = some o) : a ∉ S' := fun hm => by
  rcases m.sub a hm with hm | hm
  · exact ha hm
  · rw [hm] at h; cases h
mutual
theorem Rep.mono (m : Mo S A H S' A' H') : ∀ (d : D) {v : V}, Rep K C S A H v d → Rep K C S' A' H' v d
  | .non, _, h => by cases h; exact .non
  | .bl b, _, h => by cases h; exact .bl b
  | .int i, _, h => by cases h; exact .int i
  | .str x, _, h => by cases h; exact .str x
  | .ty n, _, h => by cases h; exact .ty n
  | .cls c, _, h => by cases h; exact .cls c
  | .tup ds, _, h => by
    cases h with
    | tup h hA hS r => exact .tup (m.keep _ _ hA hS h) (m.notA hA h) (m.notS hS h) (RepL.mono m ds r)
  | .lst ds, _, h => by
    cases h with
    | lst h hA hS r => exact .lst (m.keep _ _ hA hS h) (m.notA hA h) (m.notS hS h) (RepL.mono m ds r)
  | .ins c ds, _, h => by
    cases h with
    | ins h hA hS hl r => exact .ins (m.keep _ _ hA hS h) (m.notA hA h) (m.notS hS h) hl (RepL.mono m ds r)
  | .dct ks ds, _, h => by
    cases h with
    | dct h hA hS hl r => exact .dct (m.keep _ _ hA hS h) (m.notA hA h) (m.notS hS h) hl (RepL.mono m ds r)
  | .cell n, _, h => by
    cases h with
    | cell h =>
      obtain ⟨B, hB, _⟩ := m.pre
      refine .cell ?_
      rw [hB, List.getElem?_append_left (List.getElem?_eq_some_iff.mp h).1]
      exact h
  | .scr ns, _, h => by
    cases h with
    | scr h =>
      refine .scr ?_
      rcases h with ⟨⟨o, h⟩, hA, hS⟩ | h
      · exact .inl ⟨⟨o, m.keep _ _ hA hS h⟩, m.notA hA h, m.notS hS h⟩
      · exact .inr h
theorem RepL.mono (m : Mo S A H S' A' H') : ∀ (ds : List D) {vs : List V}, RepL K C S A H vs ds → RepL K C S' A' H' vs ds
  | [], _, h => by cases h; exact .nil
  | d :: ds, _, h => by
    cases h with
    | cons h r => exact .cons (Rep.mono m d h) (RepL.mono m ds r)
end
theorem Rep.ext {v : V} {d : D} (e : Ext A H A' H') (h : Rep K C S A H v d) : Rep K C S A' H' v d := Rep.mono e.mo d h
theorem RepL.ext {vs : List V} {ds : List D} (e : Ext A H A' H') (h : RepL K C S A H vs ds) : RepL K C S A' H' vs ds := RepL.mono e.mo ds h
theorem RepL.length : ∀ {vs : List V} {ds : List D}, RepL K C S A H vs ds → vs.length = ds.length
  | _, _, .nil => rfl
  | _, _, .cons _ r => congrArg (· + 1) (RepL.length r)
theorem RepL.get : ∀ {vs : List V} {ds : List D} {i : Nat} {d : D}, RepL K C S A H vs ds → ds[i]? = some d → ∃ v, vs[i]? = some v ∧ Rep K C S A H v d
  | _, _, _, _, .nil, e => by simp at e
  | _, _, 0, _, .cons h _, e => by simp at e; subst e; exact ⟨_, rfl, h⟩
  | _, _, i + 1, _, .cons _ r, e => by
    obtain ⟨v, h1, h2⟩ := RepL.get (i := i) r (by simpa using e)
    exact ⟨v, by simpa using h1, h2⟩
theorem RepL.getV : ∀ {vs : List V} {ds : List D} {i : Nat} {v : V}, RepL K C S A H vs ds → vs[i]? = some v → ∃ d, ds[i]? = some d ∧ Rep K C S A H v d
  | _, _, _, _, .nil, e => by simp at e
  | _, _, 0, _, .cons h _, e => by simp at e; subst e; exact ⟨_, rfl, h⟩
  | _, _, i + 1, _, .cons _ r, e => by
    obtain ⟨v, h1, h2⟩ := RepL.getV (i := i) r (by simpa using e)
    exact ⟨v, by simpa using h1, h2⟩
theorem RepL.append : ∀ {vs ws : List V} {ds es : List D}, RepL K C S A H vs ds → RepL K C S A H ws es → RepL K C S A H (vs ++ ws) (ds ++ es)
  | _, _, _, _, .nil, q => q
  | _, _, _, _, .cons h r, q => .cons h (RepL.append r q)
theorem RepL.take : ∀ {vs : List V} {ds : List D} (n : Nat), RepL K C S A H vs ds → RepL K C S A H (vs.take n) (ds.take n)
  | _, _, 0, _ => .nil
  | _, _, _ + 1, .nil => .nil
  | _, _, n + 1, .cons h r => .cons h (RepL.take n r)
theorem RepL.drop : ∀ {vs : List V} {ds : List D} (n : Nat), RepL K C S A H vs ds → RepL K C S A H (vs.drop n) (ds.drop n)
  | _, _, 0, r => r
  | _, _, _ + 1, .nil => .nil
  | _, _, n + 1, .cons _ r => RepL.drop n r
theorem RepL.reverse : ∀ {vs : List V} {ds : List D}, RepL K C S A H vs ds → RepL K C S A H vs.reverse ds.reverse
  | _, _, .nil => .nil
  | _, _, .cons h r => by
    rw [List.reverse_cons, List.reverse_cons]
    exact RepL.append (RepL.reverse r) (.cons h .nil)
theorem RepL.set : ∀ {vs : List V} {ds : List D} {v : V} {d : D} (i : Nat), Rep K C S A H v d → RepL K C S A H vs ds → RepL K C S A H (vs.set i v) (ds.set i d)
  | _, _, _, _, _, _, .nil => .nil
  | _, _, _, _, 0, q, .cons _ r => .cons q r
  | _, _, _, _, i + 1, q, .cons h r => .cons h (RepL.set i q r)
theorem RepL.repl (k : Nat) {vs : List V} {ds : List D} (r : RepL K C S A H vs ds) : RepL K C S A H (List.replicate k vs).flatten (List.replicate k ds).flatten := by
  induction k with
  | zero => exact .nil
  | succ k ih =>
    rw [List.replicate_succ, List.replicate_succ, List.flatten_cons, List.flatten_cons]
    exact RepL.append r ih
theorem Slots.ext {σ : L2.St} {Γ : List (Option D)} (e : Ext A H A' H') (h : Slots K C S A H σ Γ) : Slots K C S A' H' σ Γ :=
  ⟨h.len, fun i d q => by obtain ⟨v, h1, h2⟩ := h.at_ i d q; exact ⟨v, h1, h2.ext e⟩⟩
theorem Slots.mono {σ : L2.St} {Γ : List (Option D)} (m : Mo S A H S' A' H') (h : Slots K C S A H σ Γ) : Slots K C S' A' H' σ Γ :=
  ⟨h.len, fun i d q => by obtain ⟨v, h1, h2⟩ := h.at_ i d q; exact ⟨v, h1, Rep.mono m d h2⟩⟩
theorem Slots.set {σ : L2.St} {Γ : List (Option D)} {v : V} {d : D} (h : Slots K C S A H σ Γ) (i : Nat) (r : Rep K C S A H v d) : Slots K C S A H (σ.set i (some v)) (Γ.set i (some d)) := by
  refine ⟨by rw [List.length_set, List.length_set]; exact h.len, fun j e q => ?_⟩
  by_cases hj : j = i
  · subst hj
    have hlt : j < Γ.length := by
      have := (List.getElem?_eq_some_iff.mp q).1
      rw [List.length_set] at this
      exact this
    rw [List.getElem?_set_self hlt] at q
    cases q
    exact ⟨v, List.getElem?_set_self (by rw [h.len]; exact hlt), r⟩
  · rw [List.getElem?_set_ne (Ne.symm hj)] at q
    obtain ⟨w, h1, h2⟩ := h.at_ j e q
    exact ⟨w, by rw [List.getElem?_set_ne (Ne.symm hj)]; exact h1, h2⟩
/-- a cell's content, where its object is kept -/
theorem CellAt.mono {a : Addr} {o : O} (m : Mo S A H S' A' H') (k : ∀ u, H a = some u → H' a = some u) (h : CellAt K C S A H a o) : CellAt K C S' A' H' a o := by
  cases o with
  | lst ds =>
    obtain ⟨xs, e, r⟩ := h
    exact ⟨xs, k _ e, RepL.mono m ds r⟩
  | ins c fs =>
    obtain ⟨dx, xs, e, q, r⟩ := h
    exact ⟨dx, xs, k _ e, q, RepL.mono m _ r⟩
  | dct ks ds =>
    obtain ⟨xs, e, q, r⟩ := h
    exact ⟨xs, k _ e, q, RepL.mono m ds r⟩
theorem CellAt.trk {a : Addr} {o : O} (h : CellAt K C S A H a o) : H a ≠ none := by
  cases o with
  | lst ds =>
    obtain ⟨xs, e, r⟩ := h
    rw [e]; simp
  | ins c fs =>
    obtain ⟨dx, xs, e, q, r⟩ := h
    rw [e]; simp
  | dct ks ds =>
    obtain ⟨xs, e, q, r⟩ := h
    rw [e]; simp
/-- the cells, behind something that kept all tracked objects (and made nothing a cell) -/
theorem Cells.kept {Δ : Store} (h : Cells K C S A H Δ) (k : ∀ a o, H a = some o → H' a = some o) : Cells K C S A H' Δ := by
  refine ⟨h.len, h.nd, h.dj, fun a ha => ?_, fun n a o h1 h2 => ?_⟩
  · cases q : H a with
    | none => exact absurd q (h.as a ha)
    | some o => rw [k a o q]; simp
  · exact (h.at_ n a o h1 h2).mono ⟨⟨[], by simp, by simp⟩, fun _ h => .inl h, fun a o _ _ q => k a o q⟩ (k a)
end

/-! ### readings over data -/
abbrev Env := List (Option D)
abbrev ZE := Env → Store → (D → Store → Prop) → Prop
abbrev ZT := Env → Store → (Bool → Store → Prop) → Prop
abbrev ZA := Env → Store → (List D → Store → Prop) → Prop
structure ZEnds where
  nx : Env → Store → Prop
  rt : D → Store → Prop
  bk : Env → Store → Prop := fun _ _ => False
  ct : Env → Store → Prop := fun _ _ => False
abbrev ZS := ZEnds → Env → Store → Prop

def RefE (K : PySem.W.Frag) (C : CI) (te : TE) (z : ZE) : Prop := ∀ (S A : List Addr) (σ : L2.St) (H : Hp) (Γ : Env) (Δ : Store) (P : D → Store → Prop) (Q : VK), Slots K C S A H σ Γ → Cells K C S A H Δ → z Γ Δ P →
  (∀ v d A' H' Δ', Ext A H A' H' → Cells K C S A' H' Δ' → Rep K C S A' H' v d → P d Δ' → Q v H') → te σ H Q
def RefT (K : PySem.W.Frag) (C : CI) (tt : TT) (z : ZT) : Prop := ∀ (S A : List Addr) (σ : L2.St) (H : Hp) (Γ : Env) (Δ : Store) (P : Bool → Store → Prop) (Q : Bool → Hp → Prop), Slots K C S A H σ Γ → Cells K C S A H Δ → z Γ Δ P →
  (∀ b A' H' Δ', Ext A H A' H' → Cells K C S A' H' Δ' → P b Δ' → Q b H') → tt σ H Q
def RefA (K : PySem.W.Frag) (C : CI) (ta : TA) (z : ZA) : Prop := ∀ (S A : List Addr) (σ : L2.St) (H : Hp) (Γ : Env) (Δ : Store) (P : List D → Store → Prop) (Q : List V → Hp → Prop), Slots K C S A H σ Γ → Cells K C S A H Δ → z Γ Δ P →
  (∀ vs ds A' H' Δ', Ext A H A' H' → Cells K C S A' H' Δ' → RepL K C S A' H' vs ds → P ds Δ' → Q vs H') → ta σ H Q
/-- what a wish over slots and heap says where the wish over data is Z -/
def NxOk (K : PySem.W.Frag) (C : CI) (S A : List Addr) (H : Hp) (Z : Env → Store → Prop) (N : L2.St → Hp → Prop) : Prop :=
  ∀ σ' A' H' Γ' Δ', Ext A H A' H' → Slots K C S A' H' σ' Γ' → Cells K C S A' H' Δ' → Z Γ' Δ' → N σ' H'
structure EndsOk (K : PySem.W.Frag) (C : CI) (S A : List Addr) (H : Hp) (Z : ZEnds) (N : Ends) : Prop where
  nx : NxOk K C S A H Z.nx N.nx
  bk : NxOk K C S A H Z.bk N.bk
  ct : NxOk K C S A H Z.ct N.ct
  rt : ∀ v d A' H' Δ', Ext A H A' H' → Cells K C S A' H' Δ' → Rep K C S A' H' v d → Z.rt d Δ' → N.rt v H'
def RefS (K : PySem.W.Frag) (C : CI) (ts : TS) (z : ZS) : Prop := ∀ (S A : List Addr) (σ : L2.St) (H : Hp) (Γ : Env) (Δ : Store) (Z : ZEnds) (N : Ends), Slots K C S A H σ Γ → Cells K C S A H Δ → z Z Γ Δ → EndsOk K C S A H Z N → ts N σ H
section
variable {K : PySem.W.Frag} {C : CI} {S A A' : List Addr} {H H' : Hp}
theorem NxOk.ext {Z : Env → Store → Prop} {N : L2.St → Hp → Prop} (h : NxOk K C S A H Z N) (e : Ext A H A' H') : NxOk K C S A' H' Z N :=
  fun σ' A2 H2 Γ' Δ' e2 s c z => h σ' A2 H2 Γ' Δ' (e.trans e2) s c z
theorem EndsOk.ext {Z : ZEnds} {N : Ends} (h : EndsOk K C S A H Z N) (e : Ext A H A' H') : EndsOk K C S A' H' Z N :=
  ⟨h.nx.ext e, h.bk.ext e, h.ct.ext e, fun v d A2 H2 Δ' e2 c r z => h.rt v d A2 H2 Δ' (e.trans e2) c r z⟩
end

/-! ### the judgements: a piece of syntax and its reading over data -/
structure EZ (C : CI) (X : Cx) (e : Expr) (z : ZE) : Prop where
  ex : ∃ te, PE X e te ∧ RefE X.K C te z
structure TZ (C : CI) (X : Cx) (e : Expr) (z : ZT) : Prop where
  ex : ∃ tt, PT X e tt ∧ RefT X.K C tt z
structure WZ (C : CI) (X : Cx) (e : Expr) (z : ZT) : Prop where
  ex : ∃ tt, PW X e tt ∧ RefT X.K C tt z
structure AZ (C : CI) (X : Cx) (es : List Expr) (z : ZA) : Prop where
  ex : ∃ ta, PA X es ta ∧ RefA X.K C ta z
structure SZ (C : CI) (X : Cx) (st : Stmt) (z : ZS) : Prop where
  ex : ∃ ts, PS X st ts ∧ RefS X.K C ts z
structure SZs (C : CI) (X : Cx) (st : List Stmt) (z : ZS) : Prop where
  ex : ∃ ts, PSs X st ts ∧ RefS X.K C ts z
theorem WZ.tz {C : CI} {X : Cx} {e : Expr} {z : ZT} (h : WZ C X e z) : TZ C X e z := by
  obtain ⟨t, h1, h2⟩ := h.ex
  exact ⟨t, h1.pt, h2⟩
end Z

/-! Z2: expressions over data. -/
namespace Z
open PySem L2

abbrev ZR1 := D → Store → (D → Store → Prop) → Prop
abbrev ZR2 := D → D → Store → (D → Store → Prop) → Prop
abbrev ZRC := List D → Store → (D → Store → Prop) → Prop
def Ref1 (K : PySem.W.Frag) (C : CI) (r : V → Hp → VK → Prop) (z : ZR1) : Prop := ∀ (S A : List Addr) (H : Hp) (Δ : Store) (x : V) (dx : D) (P : D → Store → Prop) (Q : VK), Cells K C S A H Δ → Rep K C S A H x dx → z dx Δ P →
  (∀ v d A' H' Δ', Ext A H A' H' → Cells K C S A' H' Δ' → Rep K C S A' H' v d → P d Δ' → Q v H') → r x H Q
def Ref2 (K : PySem.W.Frag) (C : CI) (r : R2) (z : ZR2) : Prop := ∀ (S A : List Addr) (H : Hp) (Δ : Store) (x y : V) (dx dy : D) (P : D → Store → Prop) (Q : VK), Cells K C S A H Δ → Rep K C S A H x dx → Rep K C S A H y dy → z dx dy Δ P →
  (∀ v d A' H' Δ', Ext A H A' H' → Cells K C S A' H' Δ' → Rep K C S A' H' v d → P d Δ' → Q v H') → r x y H Q
def RefC (K : PySem.W.Frag) (C : CI) (r : List V → Hp → VK → Prop) (z : ZRC) : Prop := ∀ (S A : List Addr) (H : Hp) (Δ : Store) (xs : List V) (ds : List D) (P : D → Store → Prop) (Q : VK), Cells K C S A H Δ → RepL K C S A H xs ds → z ds Δ P →
  (∀ v d A' H' Δ', Ext A H A' H' → Cells K C S A' H' Δ' → Rep K C S A' H' v d → P d Δ' → Q v H') → r xs H Q

/-! ### names, constants -/
def zVar (i : Nat) : ZE := fun Γ Δ P => ∃ d, Γ[i]? = some (some d) ∧ P d Δ
def zC (d : D) : ZE := fun _ Δ P => P d Δ
section
variable {C : CI} {X : Cx}
theorem ez_var (i : Nat) {x : Str} {pos : Pos} (hN : X.N[i]? = some x := by rfl) (hv : Vis X.env.scope x := by first | exact Or.inl rfl | exact Or.inr (Or.inl rfl) | exact Or.inr (Or.inr rfl)) (hd : (x == ("__debug__" : Str)) = false := by decide)
    (hcd : (x == ("__classdict__" : Str)) = false := by decide) : EZ C X (.Name x pos) (zVar i) := by
  refine ⟨tVar i, pe_var hN hv hd hcd, fun S A σ H Γ Δ P Q hs hc hz k => ?_⟩
  obtain ⟨d, e, p⟩ := hz
  obtain ⟨v, h1, h2⟩ := hs.at_ i d e
  exact ⟨v, h1, k v d A H Δ (Ext.refl _ _) hc h2 p⟩
theorem ref_c {K : PySem.W.Frag} {v : V} {d : D} (h : ∀ S A H, Rep K C S A H v d) : RefE K C (tC v) (zC d) := fun S A σ H Γ Δ P Q hs hc hz k => k v d A H Δ (Ext.refl _ _) hc (h S A H) hz
theorem ez_int {i j pos} : EZ C X (.Constant (.int i) j pos) (zC (.int i)) := ⟨_, pe_int, ref_c fun _ _ _ => .int i⟩
theorem ez_bl {b j pos} : EZ C X (.Constant (.bool b) j pos) (zC (.bl b)) := ⟨_, pe_bl, ref_c fun _ _ _ => .bl b⟩
theorem ez_non {j pos} : EZ C X (.Constant .none j pos) (zC .non) := ⟨_, pe_non, ref_c fun _ _ _ => .non⟩
theorem ez_str {x j pos} : EZ C X (.Constant (.str x) j pos) (zC (.str x)) := ⟨_, pe_str, ref_c fun _ _ _ => .str x⟩
/-- a module's constant, an int -/
theorem ez_gint {x : Str} {i : Int} {t : Tok} {pos : Pos} (hm : X.mg x = some (.int i t)) (hg : Gl X x := by rfl) (hd : (x == ("__debug__" : Str)) = false := by decide) : EZ C X (.Name x pos) (zC (.int i)) :=
  ⟨_, pe_glob (v := .int i) hg hm ⟨t, rfl⟩ hd, ref_c fun _ _ _ => .int i⟩
/-- a built-in type's name as a value -/
theorem ez_ty {x : Str} {n : String} {pos : Pos} (hm : X.mg x = none) (hv : bootBuiltins x = some (.type n)) (hg : Gl X x := by rfl) (hn : x ≠ "__name__" := by decide) (hd : (x == ("__debug__" : Str)) = false := by decide) : EZ C X (.Name x pos) (zC (.ty n)) :=
  ⟨_, pe_bltn (v := .ty n) hg hm hv rfl hn hd, ref_c fun _ _ _ => .ty n⟩

/-! ### operators -/
def zOp (r : ZR2) (za zb : ZE) : ZE := fun Γ Δ P => za Γ Δ fun x Δ1 => zb Γ Δ1 fun y Δ2 => r x y Δ2 P
def zUn (r : ZR1) (za : ZE) : ZE := fun Γ Δ P => za Γ Δ fun x Δ1 => r x Δ1 P
theorem ref_op {K : PySem.W.Frag} {r : R2} {z : ZR2} {ta tb : TE} {za zb : ZE} (hr : Ref2 K C r z) (ha : RefE K C ta za) (hb : RefE K C tb zb) : RefE K C (tOp r ta tb) (zOp z za zb) := fun S A σ H Γ Δ P Q hs hc hz k =>
  ha S A σ H Γ Δ _ _ hs hc hz fun x dx A1 H1 Δ1 e1 c1 r1 hz1 => hb S A1 σ H1 Γ Δ1 _ _ (hs.ext e1) c1 hz1 fun y dy A2 H2 Δ2 e2 c2 r2 hz2 =>
    hr S A2 H2 Δ2 x y dx dy P Q c2 (r1.ext e2) r2 hz2 fun v d A3 H3 Δ3 e3 c3 r3 p => k v d A3 H3 Δ3 ((e1.trans e2).trans e3) c3 r3 p
theorem ref_un {K : PySem.W.Frag} {r : V → Hp → VK → Prop} {z : ZR1} {ta : TE} {za : ZE} (hr : Ref1 K C r z) (ha : RefE K C ta za) : RefE K C (tUn r ta) (zUn z za) := fun S A σ H Γ Δ P Q hs hc hz k =>
  ha S A σ H Γ Δ _ _ hs hc hz fun x dx A1 H1 Δ1 e1 c1 r1 hz1 => hr S A1 H1 Δ1 x dx P Q c1 r1 hz1 fun v d A3 H3 Δ3 e3 c3 r3 p => k v d A3 H3 Δ3 (e1.trans e3) c3 r3 p
variable {a b c : Expr} {za zb zc : ZE} {pos : Pos}
/-- an operator's rule: what it does by values, and over data -/
structure OpZ (C : CI) (X : Cx) (f : Value → Value → Sem Value) (z : ZR2) : Prop where
  ex : ∃ r, OpR X f r ∧ Ref2 X.K C r z
theorem ez_op {op : Operator} {z : ZR2} (ho : OpZ C X (binaryOp op) z) (ha : EZ C X a za) (hb : EZ C X b zb) : EZ C X (.BinOp a op b pos) (zOp z za zb) := by
  obtain ⟨r, o1, o2⟩ := ho.ex
  obtain ⟨ta, a1, a2⟩ := ha.ex
  obtain ⟨tb, b1, b2⟩ := hb.ex
  exact ⟨_, pe_op o1 a1 b1, ref_op o2 a2 b2⟩
def zI0 (g : Int → Int → D) : ZR2 := fun x y Δ P => ∃ i j, x = .int i ∧ y = .int j ∧ P (g i j) Δ
def zI (Cd : Int → Int → Prop) (g : Int → Int → D) : ZR2 := fun x y Δ P => ∃ i j, x = .int i ∧ y = .int j ∧ Cd i j ∧ P (g i j) Δ
theorem ref_I0 {K : PySem.W.Frag} {g : Int → Int → V} {g' : Int → Int → D} (hg : ∀ i j S A H, Rep K C S A H (g i j) (g' i j)) : Ref2 K C (rI0 g) (zI0 g') := fun S A H Δ x y dx dy P Q hc rx ry hz k => by
  obtain ⟨i, j, rfl, rfl, p⟩ := hz
  cases rx
  cases ry
  exact ⟨i, j, rfl, rfl, k _ _ A H Δ (Ext.refl _ _) hc (hg i j S A H) p⟩
theorem ref_I {K : PySem.W.Frag} {Cd : Int → Int → Prop} {g : Int → Int → V} {g' : Int → Int → D} (hg : ∀ i j S A H, Rep K C S A H (g i j) (g' i j)) : Ref2 K C (rI Cd g) (zI Cd g') := fun S A H Δ x y dx dy P Q hc rx ry hz k => by
  obtain ⟨i, j, rfl, rfl, q, p⟩ := hz
  cases rx
  cases ry
  exact ⟨i, j, rfl, rfl, q, k _ _ A H Δ (Ext.refl _ _) hc (hg i j S A H) p⟩
theorem oz_add : OpZ C X (binaryOp .Add) (zI0 fun i j => .int (i + j)) := ⟨_, op_add, ref_I0 fun _ _ _ _ _ => .int _⟩
theorem oz_sub : OpZ C X (binaryOp .Sub) (zI0 fun i j => .int (i - j)) := ⟨_, op_sub, ref_I0 fun _ _ _ _ _ => .int _⟩
/-- a product that the machine makes -/
def MulOk (i j : Int) : Prop := IntMulOk i j
theorem op_mulA : OpR X (binaryOp .Mult) (rI IntMulOk fun i j => .int (i * j)) := opI fun _ _ _ _ _ _ _ hc q => PyProof.Rows.mul_int q hc
theorem oz_mul : OpZ C X (binaryOp .Mult) (zI MulOk fun i j => .int (i * j)) := ⟨_, op_mulA, ref_I fun _ _ _ _ _ => .int _⟩
theorem oz_fdiv : OpZ C X (binaryOp .FloorDiv) (zI CDivW fun i j => .int (i / j)) := ⟨_, op_fdivW, ref_I fun _ _ _ _ _ => .int _⟩
theorem oz_mod : OpZ C X (binaryOp .Mod) (zI (fun _ j => 0 < j) fun i j => .int (i % j)) := ⟨_, op_mod, ref_I fun _ _ _ _ _ => .int _⟩
theorem oz_pow : OpZ C X (binaryOp .Pow) (zI CPow fun i j => .int (i ^ j.toNat)) := ⟨_, op_pow, ref_I fun _ _ _ _ _ => .int _⟩
/-- products by sizes -/
theorem MulOk.l {i j : Int} (h1 : -(2 ^ 64) < i) (h2 : i < 2 ^ 64) : MulOk i j := CMul.ok (.inl ⟨h1, h2⟩)
theorem MulOk.r {i j : Int} (h1 : -(2 ^ 64) < j) (h2 : j < 2 ^ 64) : MulOk i j := CMul.ok (.inr ⟨h1, h2⟩)
theorem MulOk.w {i j : Int} (a b : Nat) (ha : i.natAbs < 2 ^ a) (hb : j.natAbs < 2 ^ b) (h0 : 0 < a := by decide) (h1 : 0 < b := by decide) (h : a + b ≤ 1000000 := by decide) : MulOk i j := (wide_mul ha hb h0 h1 h).ok
def zNeg : ZR1 := fun x Δ P => ∃ i, x = .int i ∧ P (.int (-i)) Δ
theorem ez_neg (ha : EZ C X a za) : EZ C X (.UnaryOp .USub a pos) (zUn zNeg za) := by
  obtain ⟨ta, a1, a2⟩ := ha.ex
  refine ⟨_, pe_un un_neg a1, ref_un (fun S A H Δ x dx P Q hc rx hz k => ?_) a2⟩
  obtain ⟨i, rfl, p⟩ := hz
  cases rx
  exact ⟨i, rfl, k _ _ A H Δ (Ext.refl _ _) hc (.int _) p⟩

/-! ### comparisons -/
theorem oz_lt : OpZ C X (compareOp .Lt) (zI0 fun i j => .bl (decide (i < j))) := ⟨_, op_lt, ref_I0 fun _ _ _ _ _ => .bl _⟩
theorem oz_le : OpZ C X (compareOp .LtE) (zI0 fun i j => .bl (decide (i ≤ j))) := ⟨_, op_le, ref_I0 fun _ _ _ _ _ => .bl _⟩
theorem oz_gt : OpZ C X (compareOp .Gt) (zI0 fun i j => .bl (decide (j < i))) := ⟨_, op_gt, ref_I0 fun _ _ _ _ _ => .bl _⟩
theorem oz_ge : OpZ C X (compareOp .GtE) (zI0 fun i j => .bl (decide (j ≤ i))) := ⟨_, op_ge, ref_I0 fun _ _ _ _ _ => .bl _⟩
def isNon : D → Bool
  | .non => true
  | _ => false
def zIsN : ZR2 := fun x y Δ P => y = .non ∧ P (.bl (isNon x)) Δ
def zNotN : ZR2 := fun x y Δ P => y = .non ∧ P (.bl (!isNon x)) Δ
theorem Rep.isNon {K : PySem.W.Frag} {S A : List Addr} {H : Hp} {x : V} {d : D} (r : Rep K C S A H x d) : decide (x = .non) = isNon d := by
  cases r <;> first | rfl | simp [Z.isNon]
theorem oz_isN : OpZ C X (compareOp .Is) zIsN := ⟨_, op_isN, fun S A H Δ x y dx dy P Q hc rx ry hz k => by
  obtain ⟨rfl, p⟩ := hz
  cases ry
  refine ⟨rfl, k _ _ A H Δ (Ext.refl _ _) hc ?_ p⟩
  rw [rx.isNon]
  exact .bl _⟩
theorem oz_notN : OpZ C X (compareOp .IsNot) zNotN := ⟨_, op_notN, fun S A H Δ x y dx dy P Q hc rx ry hz k => by
  obtain ⟨rfl, p⟩ := hz
  cases ry
  refine ⟨rfl, k _ _ A H Δ (Ext.refl _ _) hc ?_ p⟩
  rw [rx.isNon]
  exact .bl _⟩

/-! ### plain data: == -/
mutual
def pd : D → PyData
  | .non => .none
  | .bl b => .bool b
  | .int i => .int i
  | .str x => .str x
  | .tup ds => .tuple (pds ds)
  | .lst ds => .list (pds ds)
  | _ => .none
def pds : List D → List PyData
  | [] => []
  | d :: ds => pd d :: pds ds
end
mutual
def plainD : D → Bool
  | .non | .bl _ | .int _ | .str _ => true
  | .tup ds | .lst ds => plainDs ds
  | _ => false
def plainDs : List D → Bool
  | [] => true
  | d :: ds => plainD d && plainDs ds
end
section
variable {K : PySem.W.Frag} {S A : List Addr} {H : Hp}
mutual
theorem Rep.dp : ∀ (d : D) {v : V}, plainD d = true → Rep K C S A H v d → Dp K H v (pd d)
  | .non, _, _, r => by cases r; exact .non
  | .bl b, _, _, r => by cases r; exact .bl b
  | .int i, _, _, r => by cases r; exact .int i
  | .str x, _, _, r => by cases r; exact .str x
  | .tup ds, _, h, r => by cases r with | tup h1 _ _ r => exact .tup (SqT.of h1) (RepL.dp ds h r)
  | .lst ds, _, h, r => by cases r with | lst h1 _ _ r => exact .lst (SqL.of h1) (RepL.dp ds h r)
  | .ty _, _, h, _ => by cases h
  | .ins _ _, _, h, _ => by cases h
  | .cell _, _, h, _ => by cases h
  | .scr _, _, h, _ => by cases h
  | .cls _, _, h, _ => by cases h
  | .dct _ _, _, h, _ => by cases h
theorem RepL.dp : ∀ (ds : List D) {vs : List V}, plainDs ds = true → RepL K C S A H vs ds → DpAll K H vs (pds ds)
  | [], _, _, r => by cases r; exact .nil
  | d :: ds, _, h, r => by
    cases r with
    | cons h1 r =>
      have h' : (plainD d && plainDs ds) = true := h
      rw [Bool.and_eq_true] at h'
      exact .cons (Rep.dp d h'.1 h1) (RepL.dp ds h'.2 r)
end
end
/-- what a value is at the top: a cell's content -/
def rd (Δ : Store) : D → D
  | .cell n => match Δ[n]? with
    | some (.lst ds) => .lst ds
    | _ => .cell n
  | .scr ns => .lst (ns.map D.int)
  | d => d
def shp (d : D) : Bool := plainD d && SeqAt.shaped (pd d)
def eqD (x y : D) : Bool := PyData.eqv (pd x) (pd y)
def zEq : ZR2 := fun x y Δ P => shp (rd Δ x) = true ∧ shp (rd Δ y) = true ∧ P (.bl (eqD (rd Δ x) (rd Δ y))) Δ
def zNe : ZR2 := fun x y Δ P => shp (rd Δ x) = true ∧ shp (rd Δ y) = true ∧ P (.bl (!eqD (rd Δ x) (rd Δ y))) Δ
theorem plain_ints : ∀ ns : List Int, plainDs (ns.map D.int) = true
  | [] => rfl
  | n :: ns => by
    show (plainD (.int n) && plainDs (ns.map D.int)) = true
    rw [plain_ints ns]
    rfl
theorem pds_ints {K : PySem.W.Frag} {H : Hp} : ∀ ns : List Int, DpAll K H (ns.map V.int) (pds (ns.map D.int))
  | [] => .nil
  | n :: ns => .cons (.int n) (pds_ints ns)
theorem dp_rd {K : PySem.W.Frag} {S A : List Addr} {H : Hp} {Δ : Store} {x : V} {d : D} (hc : Cells K C S A H Δ) (r : Rep K C S A H x d) (h : plainD (rd Δ d) = true) : Dp K H x (pd (rd Δ d)) := by
  cases r with
  | cell e =>
    rename_i a n
    unfold rd at h ⊢
    cases q : Δ[n]? with
    | none =>
      simp only [q] at h
      cases h
    | some o =>
      cases o with
      | ins _ _ => simp only [q] at h; cases h
      | dct _ _ => simp only [q] at h; cases h
      | lst ds =>
        simp only [q] at h ⊢
        obtain ⟨xs, h1, h2⟩ := hc.at_ n a _ e q
        exact .lst (SqL.of h1) (RepL.dp ds h h2)
  | scr e =>
    rename_i a ns
    refine .lst ?_ (pds_ints ns)
    rcases e with ⟨⟨o, e⟩, _⟩ | e
    · exact .inl (.inr ⟨o, e⟩)
    · exact .inr e
  | non => exact .non
  | bl b => exact .bl b
  | int i => exact .int i
  | str x => exact .str x
  | ty n => cases h
  | cls n => cases h
  | tup h1 h2 h3 r => exact Rep.dp _ h (.tup h1 h2 h3 r)
  | lst h1 h2 h3 r => exact Rep.dp _ h (.lst h1 h2 h3 r)
  | ins _ _ _ _ _ => cases h
  | dct _ _ _ _ _ => cases h
theorem oz_eq (hu : X.A.units + 64 < cLine) : OpZ C X (compareOp .Eq) zEq := ⟨_, op_eqD hu, fun S A H Δ x y dx dy P Q hc rx ry hz k => by
  obtain ⟨h1, h2, p⟩ := hz
  have g1 := Bool.and_eq_true_iff.mp h1
  have g2 := Bool.and_eq_true_iff.mp h2
  exact ⟨_, _, dp_rd hc rx g1.1, dp_rd hc ry g2.1, g1.2, g2.2, k _ _ A H Δ (Ext.refl _ _) hc (.bl _) p⟩⟩
theorem oz_ne (hu : X.A.units + 64 < cLine) : OpZ C X (compareOp .NotEq) zNe := ⟨_, op_neD hu, fun S A H Δ x y dx dy P Q hc rx ry hz k => by
  obtain ⟨h1, h2, p⟩ := hz
  have g1 := Bool.and_eq_true_iff.mp h1
  have g2 := Bool.and_eq_true_iff.mp h2
  exact ⟨_, _, dp_rd hc rx g1.1, dp_rd hc ry g2.1, g1.2, g2.2, k _ _ A H Δ (Ext.refl _ _) hc (.bl _) p⟩⟩

/-! ### in, not in: flat items -/
def toV : D → V
  | .bl b => .bl b
  | .int i => .int i
  | .str x => .str x
  | _ => .non
def flatD : D → Bool
  | .non | .bl _ | .int _ | .str _ => true
  | _ => false
/-- the items of a list or a tuple -/
def seqD (Δ : Store) : D → Option (List D)
  | .tup ds => some ds
  | .lst ds => some ds
  | .cell n => match Δ[n]? with
    | some (.lst ds) => some ds
    | _ => none
  | .scr ns => some (ns.map D.int)
  | _ => none
theorem Rep.toV {K : PySem.W.Frag} {S A : List Addr} {H : Hp} {x : V} {d : D} (r : Rep K C S A H x d) (h : flatD d = true) : x = Z.toV d ∧ flatV x = true := by
  cases r <;> first | exact ⟨rfl, rfl⟩ | cases h
theorem RepL.toV {K : PySem.W.Frag} {S A : List Addr} {H : Hp} : ∀ {xs : List V} {ds : List D}, RepL K C S A H xs ds → ds.all flatD = true → xs = ds.map Z.toV ∧ xs.all flatV = true
  | _, _, .nil, _ => ⟨rfl, rfl⟩
  | _, _, .cons h r, q => by
    rw [List.all_cons, Bool.and_eq_true] at q
    obtain ⟨h1, h2⟩ := Rep.toV h q.1
    obtain ⟨h3, h4⟩ := RepL.toV r q.2
    exact ⟨by rw [List.map_cons, ← h1, ← h3], by rw [List.all_cons, h2, h4] <;> rfl⟩
theorem repL_ints {K : PySem.W.Frag} {S A : List Addr} {H : Hp} : ∀ ns : List Int, RepL K C S A H (ns.map V.int) (ns.map D.int)
  | [] => .nil
  | n :: ns => .cons (.int n) (repL_ints ns)
/-- a sequence by its items, to be read -/
theorem Rep.seq {K : PySem.W.Frag} {S A : List Addr} {H : Hp} {Δ : Store} {x : V} {d : D} {ds : List D} (hc : Cells K C S A H Δ) (r : Rep K C S A H x d) (h : seqD Δ d = some ds) :
    ∃ p xs, x = .ref p ∧ (SqL K H p xs ∨ SqT K H p xs) ∧ RepL K C S A H xs ds := by
  cases r with
  | tup h1 h2 h3 r => cases h; exact ⟨_, _, rfl, .inr (SqT.of h1), r⟩
  | lst h1 h2 h3 r => cases h; exact ⟨_, _, rfl, .inl (SqL.of h1), r⟩
  | cell e =>
    rename_i a n
    unfold seqD at h
    cases q : Δ[n]? with
    | none => simp only [q] at h; cases h
    | some o =>
      cases o with
      | ins _ _ => simp only [q] at h; cases h
      | dct _ _ => simp only [q] at h; cases h
      | lst es =>
        simp only [q] at h
        cases h
        obtain ⟨xs, h1, h2⟩ := hc.at_ n a _ e q
        exact ⟨a, xs, rfl, .inl (SqL.of h1), h2⟩
  | scr e =>
    rename_i a ns
    cases h
    refine ⟨a, _, rfl, .inl ?_, repL_ints ns⟩
    rcases e with ⟨⟨o, e⟩, _⟩ | e
    · exact .inl (.inr ⟨o, e⟩)
    · exact .inr e
  | _ => cases h
def inD (x : D) (ds : List D) : Bool := inV (toV x) (ds.map toV)
def zIn : ZR2 := fun x y Δ P => ∃ ds, seqD Δ y = some ds ∧ flatD x = true ∧ ds.all flatD = true ∧ P (.bl (inD x ds)) Δ
def zNotIn : ZR2 := fun x y Δ P => ∃ ds, seqD Δ y = some ds ∧ flatD x = true ∧ ds.all flatD = true ∧ P (.bl (!inD x ds)) Δ
theorem oz_in : OpZ C X (compareOp .In) zIn := ⟨_, op_in_seq, fun S A H Δ x y dx dy P Q hc rx ry hz k => by
  obtain ⟨ds, e, f1, f2, p⟩ := hz
  obtain ⟨pa, xs, rfl, hq, r⟩ := Rep.seq hc ry e
  obtain ⟨g1, g2⟩ := Rep.toV rx f1
  obtain ⟨g3, g4⟩ := RepL.toV r f2
  refine ⟨pa, xs, rfl, hq, g2, g4, k _ _ A H Δ (Ext.refl _ _) hc ?_ p⟩
  rw [g1, g3]
  exact .bl _⟩
theorem oz_notIn : OpZ C X (compareOp .NotIn) zNotIn := ⟨_, op_notIn_seq, fun S A H Δ x y dx dy P Q hc rx ry hz k => by
  obtain ⟨ds, e, f1, f2, p⟩ := hz
  obtain ⟨pa, xs, rfl, hq, r⟩ := Rep.seq hc ry e
  obtain ⟨g1, g2⟩ := Rep.toV rx f1
  obtain ⟨g3, g4⟩ := RepL.toV r f2
  refine ⟨pa, xs, rfl, hq, g2, g4, k _ _ A H Δ (Ext.refl _ _) hc ?_ p⟩
  rw [g1, g3]
  exact .bl _⟩

/-! ### comparisons as values and tests; chains -/
theorem ez_cmp {op : CmpOp} {z : ZR2} (ho : OpZ C X (compareOp op) z) (ha : EZ C X a za) (hb : EZ C X b zb) (hm : behindInMarks op b = false := by first | exact nomark _ | rfl | with_unfolding_all rfl) : EZ C X (.Compare a [op] [b] pos) (zOp z za zb) := by
  obtain ⟨r, o1, o2⟩ := ho.ex
  obtain ⟨ta, a1, a2⟩ := ha.ex
  obtain ⟨tb, b1, b2⟩ := hb.ex
  exact ⟨_, pe_cmpR o1 a1 b1 hm, ref_op o2 a2 b2⟩
def zTest (z : ZE) : ZT := fun Γ Δ P => z Γ Δ fun d Δ1 => ∃ k, d = .bl k ∧ P k Δ1
theorem ref_test {K : PySem.W.Frag} {ta : TE} {za : ZE} (ha : RefE K C ta za) : RefT K C (tTest ta) (zTest za) := fun S A σ H Γ Δ P Q hs hc hz k =>
  ha S A σ H Γ Δ _ _ hs hc hz fun v d A1 H1 Δ1 e1 c1 r1 hz1 => by
    obtain ⟨b, rfl, p⟩ := hz1
    cases r1
    exact ⟨b, rfl, k b A1 H1 Δ1 e1 c1 p⟩
theorem tz_cmp {op : CmpOp} {z : ZR2} (ho : OpZ C X (compareOp op) z) (ha : EZ C X a za) (hb : EZ C X b zb) (hm : behindInMarks op b = false := by first | exact nomark _ | rfl | with_unfolding_all rfl) : TZ C X (.Compare a [op] [b] pos) (zTest (zOp z za zb)) := by
  obtain ⟨r, o1, o2⟩ := ho.ex
  obtain ⟨ta, a1, a2⟩ := ha.ex
  obtain ⟨tb, b1, b2⟩ := hb.ex
  exact ⟨_, pt_cmpR o1 a1 b1 hm, ref_test (ref_op o2 a2 b2)⟩
/-- an expression that gives a bool, as a test -/
theorem tz_val {e : Expr} {z : ZE} (h : EZ C X e z) (he : ∀ whole, isTrue e X.env whole = (do let v ← whole; standAt e.pos; holding [v] (truthy v)) := by intro _; rfl) : TZ C X e (zTest z) := by
  obtain ⟨te, e1, e2⟩ := h.ex
  exact ⟨_, pt_val e1 he, ref_test e2⟩
def zChain (r r' : ZR2) (za zb zc : ZE) : ZE := fun Γ Δ P => za Γ Δ fun x Δ1 => zb Γ Δ1 fun y Δ2 => r x y Δ2 fun z Δ3 => ∃ k, z = .bl k ∧ (k = true → zc Γ Δ3 fun w Δ4 => r' y w Δ4 P) ∧ (k = false → P (.bl false) Δ3)
theorem ref_chain {K : PySem.W.Frag} {r r' : R2} {z z' : ZR2} {ta tb tc : TE} (hr : Ref2 K C r z) (hr' : Ref2 K C r' z') (ha : RefE K C ta za) (hb : RefE K C tb zb) (hc' : RefE K C tc zc) : RefE K C (tChain r r' ta tb tc) (zChain z z' za zb zc) := fun S A σ H Γ Δ P Q hs hc hz k =>
  ha S A σ H Γ Δ _ _ hs hc hz fun x dx A1 H1 Δ1 e1 c1 r1 hz1 => hb S A1 σ H1 Γ Δ1 _ _ (hs.ext e1) c1 hz1 fun y dy A2 H2 Δ2 e2 c2 r2 hz2 =>
    hr S A2 H2 Δ2 x y dx dy _ _ c2 (r1.ext e2) r2 hz2 fun v d A3 H3 Δ3 e3 c3 r3 p => by
      obtain ⟨b, rfl, p1, p2⟩ := p
      cases r3
      refine ⟨b, rfl, ?_⟩
      have e13 := (e1.trans e2).trans e3
      cases b with
      | false => exact iteF (k _ _ A3 H3 Δ3 e13 c3 (.bl _) (p2 rfl))
      | true => exact iteT (hc' S A3 σ H3 Γ Δ3 _ _ (hs.ext e13) c3 (p1 rfl) fun w dw A4 H4 Δ4 e4 c4 r4 p4 => hr' S A4 H4 Δ4 y w dy dw P Q c4 ((r2.ext e3).ext e4) r4 p4 fun v d A5 H5 Δ5 e5 c5 r5 p5 => k v d A5 H5 Δ5 ((e13.trans e4).trans e5) c5 r5 p5)
theorem ez_chain {op op' : CmpOp} {z z' : ZR2} (ho : OpZ C X (compareOp op) z) (ho' : OpZ C X (compareOp op') z') (ha : EZ C X a za) (hb : EZ C X b zb) (hc : EZ C X c zc) (hm : lastMarks [op, op'] [b, c] = false := by with_unfolding_all rfl) :
    EZ C X (.Compare a [op, op'] [b, c] pos) (zChain z z' za zb zc) := by
  obtain ⟨r, o1, o2⟩ := ho.ex
  obtain ⟨r', o1', o2'⟩ := ho'.ex
  obtain ⟨ta, a1, a2⟩ := ha.ex
  obtain ⟨tb, b1, b2⟩ := hb.ex
  obtain ⟨tc, c1, c2⟩ := hc.ex
  exact ⟨_, pe_chain o1 o1' a1 b1 c1 hm, ref_chain o2 o2' a2 b2 c2⟩
theorem tz_chain {op op' : CmpOp} {z z' : ZR2} (ho : OpZ C X (compareOp op) z) (ho' : OpZ C X (compareOp op') z') (ha : EZ C X a za) (hb : EZ C X b zb) (hc : EZ C X c zc) (hm : lastMarks [op, op'] [b, c] = false := by with_unfolding_all rfl) :
    TZ C X (.Compare a [op, op'] [b, c] pos) (zTest (zChain z z' za zb zc)) := by
  obtain ⟨r, o1, o2⟩ := ho.ex
  obtain ⟨r', o1', o2'⟩ := ho'.ex
  obtain ⟨ta, a1, a2⟩ := ha.ex
  obtain ⟨tb, b1, b2⟩ := hb.ex
  obtain ⟨tc, c1, c2⟩ := hc.ex
  exact ⟨_, pt_chain o1 o1' a1 b1 c1 hm, ref_test (ref_chain o2 o2' a2 b2 c2)⟩

/-! ### and, or, not, if -/
variable {tA tB' : ZT} {rest : List Expr}
def zAnd (t u : ZT) : ZT := fun Γ Δ P => t Γ Δ fun c Δ1 => (c = true → u Γ Δ1 P) ∧ (c = false → P false Δ1)
def zOr (t u : ZT) : ZT := fun Γ Δ P => t Γ Δ fun c Δ1 => (c = true → P true Δ1) ∧ (c = false → u Γ Δ1 P)
def zNot (t : ZT) : ZT := fun Γ Δ P => t Γ Δ fun c Δ1 => P (!c) Δ1
theorem wz_and1 (ha : TZ C X a tA) : WZ C X (.BoolOp .And [a] pos) tA := by
  obtain ⟨t, h1, h2⟩ := ha.ex
  exact ⟨t, pw_and1 h1, h2⟩
theorem wz_or1 (ha : TZ C X a tA) : WZ C X (.BoolOp .Or [a] pos) tA := by
  obtain ⟨t, h1, h2⟩ := ha.ex
  exact ⟨t, pw_or1 h1, h2⟩
theorem wz_and (ha : TZ C X a tA) (hb : WZ C X (.BoolOp .And (b :: rest) pos) tB') : WZ C X (.BoolOp .And (a :: b :: rest) pos) (zAnd tA tB') := by
  obtain ⟨t, a1, a2⟩ := ha.ex
  obtain ⟨u, b1, b2⟩ := hb.ex
  refine ⟨_, pw_and a1 b1, fun S A σ H Γ Δ P Q hs hc hz k => a2 S A σ H Γ Δ _ _ hs hc hz fun c A1 H1 Δ1 e1 c1 hz1 => ?_⟩
  cases c with
  | true => exact iteT (b2 S A1 σ H1 Γ Δ1 P Q (hs.ext e1) c1 (hz1.1 rfl) fun d A2 H2 Δ2 e2 c2 p => k d A2 H2 Δ2 (e1.trans e2) c2 p)
  | false => exact iteF (k _ A1 H1 Δ1 e1 c1 (hz1.2 rfl))
theorem wz_or (ha : TZ C X a tA) (hb : WZ C X (.BoolOp .Or (b :: rest) pos) tB') : WZ C X (.BoolOp .Or (a :: b :: rest) pos) (zOr tA tB') := by
  obtain ⟨t, a1, a2⟩ := ha.ex
  obtain ⟨u, b1, b2⟩ := hb.ex
  refine ⟨_, pw_or a1 b1, fun S A σ H Γ Δ P Q hs hc hz k => a2 S A σ H Γ Δ _ _ hs hc hz fun c A1 H1 Δ1 e1 c1 hz1 => ?_⟩
  cases c with
  | true => exact iteT (k _ A1 H1 Δ1 e1 c1 (hz1.1 rfl))
  | false => exact iteF (b2 S A1 σ H1 Γ Δ1 P Q (hs.ext e1) c1 (hz1.2 rfl) fun d A2 H2 Δ2 e2 c2 p => k d A2 H2 Δ2 (e1.trans e2) c2 p)
theorem tz_not (ha : TZ C X a tA) : TZ C X (.UnaryOp .Not a pos) (zNot tA) := by
  obtain ⟨t, a1, a2⟩ := ha.ex
  exact ⟨_, pt_not a1, fun S A σ H Γ Δ P Q hs hc hz k => a2 S A σ H Γ Δ _ _ hs hc hz fun c A1 H1 Δ1 e1 c1 hz1 => k _ A1 H1 Δ1 e1 c1 hz1⟩
/-- values -/
def zAndV (za zb : ZE) : ZE := fun Γ Δ P => za Γ Δ fun x Δ1 => ∃ c, x = .bl c ∧ (c = true → zb Γ Δ1 P) ∧ (c = false → P (.bl false) Δ1)
def zOrV (za zb : ZE) : ZE := fun Γ Δ P => za Γ Δ fun x Δ1 => ∃ c, x = .bl c ∧ (c = true → P (.bl true) Δ1) ∧ (c = false → zb Γ Δ1 P)
def zNotV (za : ZE) : ZE := fun Γ Δ P => za Γ Δ fun x Δ1 => ∃ c, x = .bl c ∧ P (.bl (!c)) Δ1
theorem ez_one {op} {z : ZE} (h : EZ C X a z) : EZ C X (.BoolOp op [a] pos) z := by
  obtain ⟨t, h1, h2⟩ := h.ex
  exact ⟨t, pe_one h1, h2⟩
theorem ez_and (ha : EZ C X a za) (hb : EZ C X (.BoolOp .And (b :: rest) pos) zb) : EZ C X (.BoolOp .And (a :: b :: rest) pos) (zAndV za zb) := by
  obtain ⟨t, a1, a2⟩ := ha.ex
  obtain ⟨u, b1, b2⟩ := hb.ex
  refine ⟨_, pe_and a1 b1, fun S A σ H Γ Δ P Q hs hc hz k => a2 S A σ H Γ Δ _ _ hs hc hz fun x dx A1 H1 Δ1 e1 c1 r1 hz1 => ?_⟩
  obtain ⟨c, rfl, p1, p2⟩ := hz1
  cases r1
  refine ⟨c, rfl, ?_⟩
  cases c with
  | true => exact iteT (b2 S A1 σ H1 Γ Δ1 P Q (hs.ext e1) c1 (p1 rfl) fun v d A2 H2 Δ2 e2 c2 r2 p => k v d A2 H2 Δ2 (e1.trans e2) c2 r2 p)
  | false => exact iteF (k _ _ A1 H1 Δ1 e1 c1 (.bl _) (p2 rfl))
theorem ez_or (ha : EZ C X a za) (hb : EZ C X (.BoolOp .Or (b :: rest) pos) zb) : EZ C X (.BoolOp .Or (a :: b :: rest) pos) (zOrV za zb) := by
  obtain ⟨t, a1, a2⟩ := ha.ex
  obtain ⟨u, b1, b2⟩ := hb.ex
  refine ⟨_, pe_or a1 b1, fun S A σ H Γ Δ P Q hs hc hz k => a2 S A σ H Γ Δ _ _ hs hc hz fun x dx A1 H1 Δ1 e1 c1 r1 hz1 => ?_⟩
  obtain ⟨c, rfl, p1, p2⟩ := hz1
  cases r1
  refine ⟨c, rfl, ?_⟩
  cases c with
  | false => exact iteF (b2 S A1 σ H1 Γ Δ1 P Q (hs.ext e1) c1 (p2 rfl) fun v d A2 H2 Δ2 e2 c2 r2 p => k v d A2 H2 Δ2 (e1.trans e2) c2 r2 p)
  | true => exact iteT (k _ _ A1 H1 Δ1 e1 c1 (.bl _) (p1 rfl))
theorem ez_not (ha : EZ C X a za) : EZ C X (.UnaryOp .Not a pos) (zNotV za) := by
  obtain ⟨t, a1, a2⟩ := ha.ex
  refine ⟨_, pe_not a1, fun S A σ H Γ Δ P Q hs hc hz k => a2 S A σ H Γ Δ _ _ hs hc hz fun x dx A1 H1 Δ1 e1 c1 r1 hz1 => ?_⟩
  obtain ⟨c, rfl, p⟩ := hz1
  cases r1
  exact ⟨c, rfl, k _ _ A1 H1 Δ1 e1 c1 (.bl _) p⟩
def zIf (t : ZT) (za zb : ZE) : ZE := fun Γ Δ P => t Γ Δ fun c Δ1 => (c = true → za Γ Δ1 P) ∧ (c = false → zb Γ Δ1 P)
theorem ez_if {c : Expr} (hc : TZ C X c tA) (ha : EZ C X a za) (hb : EZ C X b zb) : EZ C X (.IfExp c a b pos) (zIf tA za zb) := by
  obtain ⟨t, t1, t2⟩ := hc.ex
  obtain ⟨ta, a1, a2⟩ := ha.ex
  obtain ⟨tb, b1, b2⟩ := hb.ex
  refine ⟨_, pe_ifExp t1 a1 b1, fun S A σ H Γ Δ P Q hs hc hz k => t2 S A σ H Γ Δ _ _ hs hc hz fun d A1 H1 Δ1 e1 c1 hz1 => ?_⟩
  cases d with
  | true => exact iteT (a2 S A1 σ H1 Γ Δ1 P Q (hs.ext e1) c1 (hz1.1 rfl) fun v d A2 H2 Δ2 e2 c2 r2 p => k v d A2 H2 Δ2 (e1.trans e2) c2 r2 p)
  | false => exact iteF (b2 S A1 σ H1 Γ Δ1 P Q (hs.ext e1) c1 (hz1.2 rfl) fun v d A2 H2 Δ2 e2 c2 r2 p => k v d A2 H2 Δ2 (e1.trans e2) c2 r2 p)

/-! ### argument lists, displays -/
variable {e : Expr} {es : List Expr} {ze : ZE} {zs : ZA}
def zNil : ZA := fun _ Δ P => P [] Δ
def zCons (z : ZE) (zs : ZA) : ZA := fun Γ Δ P => z Γ Δ fun d Δ1 => zs Γ Δ1 fun ds Δ2 => P (d :: ds) Δ2
theorem az_nil : AZ C X [] zNil := ⟨_, pa_nil, fun S A σ H Γ Δ P Q hs hc hz k => k [] [] A H Δ (Ext.refl _ _) hc .nil hz⟩
theorem az_cons (ha : EZ C X e ze) (hr : AZ C X es zs) (hst : starEach (e :: es) X.env = (false, eval e X.env) :: starEach es X.env := by rfl) : AZ C X (e :: es) (zCons ze zs) := by
  obtain ⟨t, a1, a2⟩ := ha.ex
  obtain ⟨u, b1, b2⟩ := hr.ex
  exact ⟨_, pa_cons a1 b1 hst, fun S A σ H Γ Δ P Q hs hc hz k => a2 S A σ H Γ Δ _ _ hs hc hz fun x dx A1 H1 Δ1 e1 c1 r1 hz1 =>
    b2 S A1 σ H1 Γ Δ1 _ _ (hs.ext e1) c1 hz1 fun vs ds A2 H2 Δ2 e2 c2 r2 p => k _ _ A2 H2 Δ2 (e1.trans e2) c2 (.cons (r1.ext e2) r2) p⟩
def zTup (zs : ZA) : ZE := fun Γ Δ P => zs Γ Δ fun ds Δ1 => ds.length ≤ 100000 ∧ P (.tup ds) Δ1
def zLst (zs : ZA) : ZE := fun Γ Δ P => zs Γ Δ fun ds Δ1 => ds.length ≤ 100000 ∧ P (.lst ds) Δ1
/-- a display that is changed later -/
def zLstC (zs : ZA) : ZE := fun Γ Δ P => zs Γ Δ fun ds Δ1 => ds.length ≤ 100000 ∧ P (.cell Δ1.length) (Δ1 ++ [.lst ds])
theorem sz100 {n : Nat} (h : n ≤ 100000) : n ≤ sizeLine := Nat.le_trans h (by decide)
section
variable {K : PySem.W.Frag} {S A : List Addr} {H : Hp} {Δ : Store}
theorem Cells.new (hc : Cells K C S A H Δ) {p : Addr} {o : HO} (h : H p = none) : Cells K C S A (upd H p o) Δ := hc.kept fun a u e => by rw [upd_ne (ne_of_none e h)]; exact e
theorem Cells.fresh (hc : Cells K C S A H Δ) {p : Addr} (h : H p = none) : p ∉ A := fun hp => by
  obtain ⟨n, hn⟩ := List.mem_iff_getElem?.mp hp
  have hl : n < Δ.length := by rw [← hc.len]; exact (List.getElem?_eq_some_iff.mp hn).1
  exact (hc.at_ n p _ hn (List.getElem?_eq_getElem hl)).trk h
theorem Cells.aside (hc : Cells K C S A H Δ) {p : Addr} (h : H p = none) : p ∉ S := fun hp => hc.as p hp h
end
theorem ez_tup {x1} (h : AZ C X es zs) : EZ C X (.Tuple es x1 pos) (zTup zs) := by
  obtain ⟨t, h1, h2⟩ := h.ex
  refine ⟨_, pe_tup h1, fun S A σ H Γ Δ P Q hs hc hz k => h2 S A σ H Γ Δ _ _ hs hc hz fun vs ds A1 H1 Δ1 e1 c1 r1 hz1 => ?_⟩
  refine ⟨sz100 (by rw [r1.length]; exact hz1.1), fun p hp => ?_⟩
  exact k _ _ A1 _ Δ1 (e1.trans (Ext.new hp)) (c1.new hp) (.tup upd_same (c1.fresh hp) (c1.aside hp) (r1.ext (Ext.new hp))) hz1.2
theorem ez_lst (h : AZ C X es zs) : EZ C X (.List es pos) (zLst zs) := by
  obtain ⟨t, h1, h2⟩ := h.ex
  refine ⟨_, pe_lst h1, fun S A σ H Γ Δ P Q hs hc hz k => h2 S A σ H Γ Δ _ _ hs hc hz fun vs ds A1 H1 Δ1 e1 c1 r1 hz1 => ?_⟩
  refine ⟨sz100 (by rw [r1.length]; exact hz1.1), fun p hp => ?_⟩
  exact k _ _ A1 _ Δ1 (e1.trans (Ext.new hp)) (c1.new hp) (.lst upd_same (c1.fresh hp) (c1.aside hp) (r1.ext (Ext.new hp))) hz1.2
section
variable {K : PySem.W.Frag} {S A : List Addr} {H : Hp} {Δ : Store}
/-- a new object becomes a cell -/
theorem Cells.newO (hc : Cells K C S A H Δ) {p : Addr} {u : HO} {o : O} (h : H p = none) (r : CellAt K C S (A ++ [p]) (upd H p u) p o) : Cells K C S (A ++ [p]) (upd H p u) (Δ ++ [o]) := by
  have e := Ext.newCell (A := A) (o := u) h
  refine ⟨by rw [List.length_append, List.length_append, hc.len] <;> rfl, ?_, ?_, ?_, ?_⟩
  · refine List.nodup_append.mpr ⟨hc.nd, by simp, fun a ha b hb => ?_⟩
    rw [List.mem_singleton] at hb
    subst hb
    exact fun q => hc.fresh h (q ▸ ha)
  · intro a ha
    rcases List.mem_append.mp ha with ha | ha
    · exact hc.dj a ha
    · rw [List.mem_singleton] at ha
      subst ha
      exact hc.aside h
  · intro a ha q
    exact hc.as a ha (e.trk a q)
  · intro n a w h1 h2
    by_cases hn : n < A.length
    · rw [List.getElem?_append_left hn] at h1
      rw [List.getElem?_append_left (by rw [← hc.len]; exact hn)] at h2
      exact (hc.at_ n a w h1 h2).mono e.mo fun y q => by rw [upd_ne (ne_of_none q h)]; exact q
    · have hn2 : n = A.length := by
        have := (List.getElem?_eq_some_iff.mp h1).1
        rw [List.length_append] at this
        simp at this
        omega
      subst hn2
      rw [List.getElem?_append_right (Nat.le_refl _), Nat.sub_self] at h1
      rw [hc.len, List.getElem?_append_right (Nat.le_refl _), Nat.sub_self] at h2
      simp at h1 h2
      subst h1
      subst h2
      exact r
theorem Cells.newCell (hc : Cells K C S A H Δ) {p : Addr} {xs : List V} {ds : List D} (h : H p = none) (r : RepL K C S A H xs ds) : Cells K C S (A ++ [p]) (upd H p (.lst xs)) (Δ ++ [.lst ds]) :=
  hc.newO h ⟨xs, upd_same, r.ext (Ext.newCell h)⟩
/-- a cell's content is replaced -/
theorem Cells.putO (hc : Cells K C S A H Δ) {n : Nat} {p : Addr} {u : HO} {o : O} (h : A[n]? = some p) (r : CellAt K C S A (upd H p u) p o) : Cells K C S A (upd H p u) (Δ.set n o) ∧ Ext A H A (upd H p u) := by
  have hl : n < Δ.length := by rw [← hc.len]; exact (List.getElem?_eq_some_iff.mp h).1
  have hp : p ∈ A := List.mem_of_getElem? h
  have hne : H p ≠ none := (hc.at_ n p _ h (List.getElem?_eq_getElem hl)).trk
  have e : Ext A H A (upd H p u) := Ext.write hp hne
  refine ⟨⟨by rw [List.length_set]; exact hc.len, hc.nd, hc.dj, fun a ha q => hc.as a ha (e.trk a q), fun m a w h1 h2 => ?_⟩, e⟩
  by_cases hm : m = n
  · subst hm
    rw [h] at h1
    cases h1
    rw [List.getElem?_set_self hl] at h2
    cases h2
    exact r
  · rw [List.getElem?_set_ne (Ne.symm hm)] at h2
    have hap : a ≠ p := fun q => hm (by
      subst q
      obtain ⟨l1, q1⟩ := List.getElem?_eq_some_iff.mp h1
      obtain ⟨l2, q2⟩ := List.getElem?_eq_some_iff.mp h
      exact (List.getElem_inj hc.nd).mp (q1.trans q2.symm))
    exact (hc.at_ m a w h1 h2).mono e.mo fun y q => by rw [upd_ne hap]; exact q
theorem Cells.put (hc : Cells K C S A H Δ) {n : Nat} {p : Addr} {xs : List V} {ds : List D} (h : A[n]? = some p) (r : RepL K C S A H xs ds) : Cells K C S A (upd H p (.lst xs)) (Δ.set n (.lst ds)) ∧ Ext A H A (upd H p (.lst xs)) := by
  have hl : n < Δ.length := by rw [← hc.len]; exact (List.getElem?_eq_some_iff.mp h).1
  have hp : p ∈ A := List.mem_of_getElem? h
  have e : Ext A H A (upd H p (.lst xs)) := Ext.write hp (hc.at_ n p _ h (List.getElem?_eq_getElem hl)).trk
  exact hc.putO h ⟨xs, upd_same, r.ext e⟩
end
theorem ez_lstC (h : AZ C X es zs) : EZ C X (.List es pos) (zLstC zs) := by
  obtain ⟨t, h1, h2⟩ := h.ex
  refine ⟨_, pe_lst h1, fun S A σ H Γ Δ P Q hs hc hz k => h2 S A σ H Γ Δ _ _ hs hc hz fun vs ds A1 H1 Δ1 e1 c1 r1 hz1 => ?_⟩
  refine ⟨sz100 (by rw [r1.length]; exact hz1.1), fun p hp => ?_⟩
  refine k _ _ (A1 ++ [p]) _ _ (e1.trans (Ext.newCell hp)) (c1.newCell hp r1) (.cell ?_) hz1.2
  rw [← c1.len, List.getElem?_append_right (Nat.le_refl _), Nat.sub_self]
  rfl

/-! ### subscripts, slices -/
def zIx : ZR2 := fun x y Δ P => ∃ ds i d, y = .int i ∧ seqD Δ x = some ds ∧ atI ds i = some d ∧ P d Δ
theorem atI_rep {K : PySem.W.Frag} {S A : List Addr} {H : Hp} {xs : List V} {ds : List D} {i : Int} {d : D} (r : RepL K C S A H xs ds) (h : atI ds i = some d) : ∃ v, atI xs i = some v ∧ Rep K C S A H v d := by
  unfold atI at h ⊢
  rw [r.length]
  cases q : ixN ds.length i with
  | none => rw [q] at h; cases h
  | some j =>
    rw [q] at h
    obtain ⟨v, h1, h2⟩ := r.get (show ds[j]? = some d from h)
    exact ⟨v, h1, h2⟩
theorem ez_ix (ha : EZ C X a za) (hb : EZ C X b zb) (hp : PlainIx b := by exact fun _ _ => rfl) : EZ C X (.Subscript a b pos) (zOp zIx za zb) := by
  obtain ⟨ta, a1, a2⟩ := ha.ex
  obtain ⟨tb, b1, b2⟩ := hb.ex
  refine ⟨_, pe_ix (ix_list.or ix_tup) a1 b1 hp, ref_op (fun S A H Δ x y dx dy P Q hc rx ry hz k => ?_) a2 b2⟩
  obtain ⟨ds, i, d, rfl, e, g, p⟩ := hz
  obtain ⟨pa, xs, rfl, hq, r⟩ := Rep.seq hc rx e
  cases ry
  obtain ⟨v, h1, h2⟩ := atI_rep r g
  have fin := k v d A H Δ (Ext.refl _ _) hc h2 p
  rcases hq with hq | hq
  · exact .inl ⟨pa, xs, i, v, rfl, rfl, hq, h1, fin⟩
  · exact .inr ⟨pa, xs, i, v, rfl, rfl, hq, h1, fin⟩
abbrev ZO := Env → Store → (Option Int → Store → Prop) → Prop
structure OZ (C : CI) (X : Cx) (e : Option Expr) (z : ZO) : Prop where
  ex : ∃ t, PO X e t ∧ ∀ (S A : List Addr) (σ : L2.St) (H : Hp) (Γ : Env) (Δ : Store) (P : Option Int → Store → Prop) (Q : Option Int → Hp → Prop), Slots X.K C S A H σ Γ → Cells X.K C S A H Δ → z Γ Δ P →
    (∀ o A' H' Δ', Ext A H A' H' → Cells X.K C S A' H' Δ' → P o Δ' → Q o H') → t σ H Q
def zNoPart : ZO := fun _ Δ P => P none Δ
def zPart (z : ZE) : ZO := fun Γ Δ P => z Γ Δ fun d Δ1 => ∃ i, d = .int i ∧ P (some i) Δ1
theorem oz_none : OZ C X none zNoPart := ⟨_, po_none, fun S A σ H Γ Δ P Q hs hc hz k => k none A H Δ (Ext.refl _ _) hc hz⟩
theorem oz_some {z : ZE} (h : EZ C X e z) : OZ C X (some e) (zPart z) := by
  obtain ⟨t, h1, h2⟩ := h.ex
  refine ⟨_, po_some h1, fun S A σ H Γ Δ P Q hs hc hz k => h2 S A σ H Γ Δ _ _ hs hc hz fun v d A1 H1 Δ1 e1 c1 r1 hz1 => ?_⟩
  obtain ⟨i, rfl, p⟩ := hz1
  cases r1
  exact ⟨i, rfl, k _ A1 H1 Δ1 e1 c1 p⟩
/-- the items from lo to hi -/
def cutD (xs : List D) (lo hi : Option Int) : List D := (xs.drop (HT.sIx xs.length 0 lo)).take (HT.sIx xs.length xs.length hi - HT.sIx xs.length 0 lo)
def zSl (z : ZE) (zl zh : ZO) : ZE := fun Γ Δ P => z Γ Δ fun x Δ1 => zl Γ Δ1 fun l Δ2 => zh Γ Δ2 fun u Δ3 => ∃ ds, (x = .lst ds ∨ (∃ n, x = .cell n ∧ Δ3[n]? = some (.lst ds)) ∨ ∃ ns, x = .scr ns ∧ ds = ns.map D.int) ∧ P (.lst (cutD ds l u)) Δ3
theorem ez_sl {lo hi : Option Expr} {zl zh : ZO} {p2 : Pos} (ha : EZ C X a za) (hl : OZ C X lo zl) (hh : OZ C X hi zh) : EZ C X (.Subscript a (.Slice lo hi none p2) pos) (zSl za zl zh) := by
  obtain ⟨t, a1, a2⟩ := ha.ex
  obtain ⟨tl, l1, l2⟩ := hl.ex
  obtain ⟨th, u1, u2⟩ := hh.ex
  refine ⟨_, pe_slice sl_list a1 l1 u1, fun S A σ H Γ Δ P Q hs hc hz k => a2 S A σ H Γ Δ _ _ hs hc hz fun x dx A1 H1 Δ1 e1 c1 r1 hz1 => ?_⟩
  refine l2 S A1 σ H1 Γ Δ1 _ _ (hs.ext e1) c1 hz1 fun l A2 H2 Δ2 e2 c2 hz2 => u2 S A2 σ H2 Γ Δ2 _ _ ((hs.ext e1).ext e2) c2 hz2 fun u A3 H3 Δ3 e3 c3 hz3 => ?_
  obtain ⟨ds, hd, p⟩ := hz3
  have r3 := (r1.ext e2).ext e3
  have hq : ∃ pa xs, x = .ref pa ∧ SqL X.K H3 pa xs ∧ RepL X.K C S A3 H3 xs ds := by
    rcases hd with rfl | ⟨n, rfl, hd⟩ | ⟨ns, rfl, rfl⟩
    · cases r3 with
      | lst g1 _ _ g4 => exact ⟨_, _, rfl, SqL.of g1, g4⟩
    · cases r3 with
      | cell g =>
        obtain ⟨xs, g1, g2⟩ := c3.at_ n _ _ g hd
        exact ⟨_, _, rfl, SqL.of g1, g2⟩
    · cases r3 with
      | scr g =>
        refine ⟨_, _, rfl, ?_, repL_ints ns⟩
        rcases g with ⟨⟨o, g⟩, _⟩ | g
        · exact .inl (.inr ⟨o, g⟩)
        · exact .inr g
  obtain ⟨pa, xs, rfl, hS, r⟩ := hq
  have hcut : RepL X.K C S A3 H3 (cutV xs l u) (cutD ds l u) := by
    unfold cutV cutD
    rw [r.length]
    exact (r.drop _).take _
  refine ⟨pa, xs, rfl, hS, fun q hq => ?_⟩
  have e4 := Ext.new (A := A3) (o := .lst (cutV xs l u)) hq
  exact k _ _ A3 _ Δ3 (((e1.trans e2).trans e3).trans e4) (c3.new hq) (.lst upd_same (c3.fresh hq) (c3.aside hq) (hcut.ext e4)) p
/-- a list of the Δ's that is not the script, to be joined -/
def lstD (Δ : Store) : D → Option (List D)
  | .lst ds => some ds
  | .cell n => match Δ[n]? with
    | some (.lst ds) => some ds
    | _ => none
  | _ => none
theorem Rep.lst_ {K : PySem.W.Frag} {S A : List Addr} {H : Hp} {Δ : Store} {x : V} {d : D} {ds : List D} (hc : Cells K C S A H Δ) (r : Rep K C S A H x d) (h : lstD Δ d = some ds) :
    ∃ p xs, x = .ref p ∧ H p = some (.lst xs) ∧ RepL K C S A H xs ds := by
  cases r with
  | lst h1 h2 h3 r => cases h; exact ⟨_, _, rfl, h1, r⟩
  | cell e =>
    rename_i a n
    unfold lstD at h
    cases q : Δ[n]? with
    | none => simp only [q] at h; cases h
    | some o =>
      cases o with
      | ins _ _ => simp only [q] at h; cases h
      | dct _ _ => simp only [q] at h; cases h
      | lst es =>
        simp only [q] at h
        cases h
        obtain ⟨xs, h1, h2⟩ := hc.at_ n a _ e q
        exact ⟨a, xs, rfl, h1, h2⟩
  | _ => cases h
/-- xs + ys | ints -/
def zAddA : ZR2 := fun x y Δ P => (∃ i j, x = .int i ∧ y = .int j ∧ P (.int (i + j)) Δ) ∨ ∃ ds es, lstD Δ x = some ds ∧ lstD Δ y = some es ∧ ds.length + es.length ≤ 100000 ∧ P (.lst (ds ++ es)) Δ
theorem OpR.or {f : Value → Value → Sem Value} {r r' : R2} (h : OpR X f r) (h' : OpR X f r') : OpR X f (fun x y H Q => r x y H Q ∨ r' x y H Q) := fun pins s σ H x y v u Q I rx ry q => q.elim (h pins s σ H x y v u Q I rx ry) (h' pins s σ H x y v u Q I rx ry)
def zCat : ZR2 := fun x y Δ P => ∃ ds es, lstD Δ x = some ds ∧ lstD Δ y = some es ∧ ds.length + es.length ≤ 100000 ∧ P (.lst (ds ++ es)) Δ
theorem ref_cat {K : PySem.W.Frag} : Ref2 K C rCat zCat := fun S A H Δ x y dx dy P Q hc rx ry hz k => by
  obtain ⟨ds, es, h1, h2, hl, p⟩ := hz
  obtain ⟨a, xs, rfl, g1, g2⟩ := Rep.lst_ hc rx h1
  obtain ⟨b, ys, rfl, g3, g4⟩ := Rep.lst_ hc ry h2
  refine ⟨a, b, xs, ys, rfl, rfl, g1, g3, sz100 (by rw [g2.length, g4.length]; exact hl), fun q hq => ?_⟩
  have e := Ext.new (A := A) (o := .lst (xs ++ ys)) hq
  exact k _ _ A _ Δ e (hc.new hq) (.lst upd_same (hc.fresh hq) (hc.aside hq) ((g2.append g4).ext e)) p
theorem oz_cat : OpZ C X (binaryOp .Add) zCat := ⟨_, op_cat, ref_cat⟩
theorem oz_addA : OpZ C X (binaryOp .Add) zAddA := ⟨_, op_add.or op_cat, fun S A H Δ x y dx dy P Q hc rx ry hz k => by
  rcases hz with ⟨i, j, h1, h2, p⟩ | hz
  · exact .inl (ref_I0 (g' := fun i j => .int (i + j)) (fun i j _ _ _ => .int _) S A H Δ x y dx dy P Q hc rx ry ⟨i, j, h1, h2, p⟩ k)
  · exact .inr (ref_cat S A H Δ x y dx dy P Q hc rx ry hz k)⟩
def zRepeat : ZR2 := fun x y Δ P => ∃ ds k, lstD Δ x = some ds ∧ y = .int k ∧ -(2 ^ 63) ≤ k ∧ k < 2 ^ 63 ∧ ds.length * k.toNat ≤ 100000 ∧ P (.lst (List.replicate k.toNat ds).flatten) Δ
theorem oz_rep : OpZ C X (binaryOp .Mult) zRepeat := ⟨_, op_rep, fun S A H Δ x y dx dy P Q hc rx ry hz k => by
  obtain ⟨ds, i, h1, rfl, h2, h3, hl, p⟩ := hz
  obtain ⟨a, xs, rfl, g1, g2⟩ := Rep.lst_ hc rx h1
  cases ry
  refine ⟨a, i, xs, rfl, rfl, g1, h2, h3, sz100 (by rw [g2.length]; exact hl), fun q hq => ?_⟩
  have e := Ext.new (A := A) (o := .lst (List.replicate i.toNat xs).flatten) hq
  exact k _ _ A _ Δ e (hc.new hq) (.lst upd_same (hc.fresh hq) (hc.aside hq) ((g2.repl _).ext e)) p⟩
end
end Z

/-! Z3: statements, loops, comprehensions, calls of defs and built-ins over data. -/
namespace Z
open PySem L2

/-! ### targets -/
abbrev ZG := D → Env → Store → (Env → Store → Prop) → Prop
abbrev ZGs := List D → Env → Store → (Env → Store → Prop) → Prop
def RefG (K : PySem.W.Frag) (C : CI) (g : TG) (z : ZG) : Prop := ∀ (S A : List Addr) (σ : L2.St) (H : Hp) (Γ : Env) (Δ : Store) (v : V) (d : D) (P : Env → Store → Prop) (Q : L2.St → Hp → Prop), Slots K C S A H σ Γ → Cells K C S A H Δ → Rep K C S A H v d → z d Γ Δ P →
  NxOk K C S A H P Q → g v σ H Q
def RefGs (K : PySem.W.Frag) (C : CI) (g : TGs) (z : ZGs) : Prop := ∀ (S A : List Addr) (σ : L2.St) (H : Hp) (Γ : Env) (Δ : Store) (vs : List V) (ds : List D) (P : Env → Store → Prop) (Q : L2.St → Hp → Prop), Slots K C S A H σ Γ → Cells K C S A H Δ → RepL K C S A H vs ds → z ds Γ Δ P →
  NxOk K C S A H P Q → g vs σ H Q
structure GZ (C : CI) (X : Cx) (e : Expr) (g : TG) (z : ZG) : Prop where
  pg : PG X e g
  ref : RefG X.K C g z
structure GsZ (C : CI) (X : Cx) (es : List Expr) (g : TGs) (z : ZGs) : Prop where
  pg : PGs X es g
  ref : RefGs X.K C g z
def zgName (i : Nat) : ZG := fun d Γ Δ P => P (Γ.set i (some d)) Δ
def zgNil : ZGs := fun ds Γ Δ P => ds = [] ∧ P Γ Δ
def zgCons (g : ZG) (gs : ZGs) : ZGs := fun ds Γ Δ P => ∃ d r, ds = d :: r ∧ g d Γ Δ fun Γ' Δ' => gs r Γ' Δ' P
def zgTup (n : Nat) (gs : ZGs) : ZG := fun d Γ Δ P => ∃ ds, d = .tup ds ∧ ds.length = n ∧ gs ds Γ Δ P
def zgSub (zo zi : ZE) : ZG := fun d Γ Δ P => zo Γ Δ fun o Δ1 => zi Γ Δ1 fun y Δ2 => ∃ n ds i j, o = .cell n ∧ Δ2[n]? = some (.lst ds) ∧ y = .int i ∧ ixN ds.length i = some j ∧ P Γ (Δ2.set n (.lst (ds.set j d)))
section
variable {C : CI} {X : Cx} {pos : Pos}
theorem gz_name {i : Nat} {x : Str} (hN : X.N.Nodup) (hi : X.N[i]? = some x) (hx : Loc X.env.scope x := by first | exact Or.inl rfl | exact Or.inr rfl) (hf : X.fn x = true ∨ X.env.scope.names.lookup x = some .local := by first | exact .inl rfl | exact .inr rfl | assumption) : GZ C X (.Name x pos) (gName i) (zgName i) :=
  ⟨pg_name hN hi hx hf, fun S A σ H Γ Δ v d P Q hs hc r hz k => k _ A H _ Δ (Ext.refl _ _) (hs.set i r) hc hz⟩
theorem gsz_nil : GsZ C X [] gNil zgNil := ⟨pgs_nil, fun S A σ H Γ Δ vs ds P Q hs hc r hz k => by
  obtain ⟨rfl, p⟩ := hz
  cases r
  exact ⟨rfl, k _ A H _ Δ (Ext.refl _ _) hs hc p⟩⟩
theorem gsz_cons {e : Expr} {es : List Expr} {g : TG} {gs : TGs} {z : ZG} {zs : ZGs} (h : GZ C X e g z) (hr : GsZ C X es gs zs) (hst : (assignEach (e :: es) X.env).map (·.2) = assign e X.env :: (assignEach es X.env).map (·.2) := by rfl) : GsZ C X (e :: es) (gCons g gs) (zgCons z zs) :=
  ⟨pgs_cons h.pg hr.pg hst, fun S A σ H Γ Δ vs ds P Q hs hc r hz k => by
    obtain ⟨d, rest, rfl, p⟩ := hz
    cases r with
    | cons r1 r2 =>
      exact ⟨_, _, rfl, h.ref S A σ H Γ Δ _ d _ _ hs hc r1 p fun σ' A' H' Γ' Δ' e1 s1 c1 p1 => hr.ref S A' σ' H' Γ' Δ' _ rest P Q s1 c1 (r2.ext e1) p1 (k.ext e1)⟩⟩
theorem gz_tup {es : List Expr} {k : Nat} {gs : TGs} {zs : ZGs} {n : Nat} (h : GsZ C X es gs zs) (hc : X.calm = true := by rfl) (hn : (assignEach es X.env).length = n := by rfl) (hst : (assignEach es X.env).findIdx? (·.1) = none := by rfl) : GZ C X (.Tuple es k pos) (gTup X.K n gs) (zgTup n zs) :=
  ⟨pg_tup hc h.pg hn hst, fun S A σ H Γ Δ v d P Q hs hc r hz k => by
    obtain ⟨ds, rfl, hl, p⟩ := hz
    cases r with
    | tup h1 h2 h3 r => exact ⟨_, _, rfl, SqT.of h1, by rw [r.length]; exact hl, h.ref S A σ H Γ Δ _ ds P Q hs hc r p k⟩⟩
theorem gz_sub {o i : Expr} {zo zi : ZE} (ho : EZ C X o zo) (hi : EZ C X i zi) (ha : ∀ v, assign (.Subscript o i pos) X.env v = (do
      let ov ← holding [v] (eval o X.env)
      let iv ← holding [v, ov] (eval i X.env)
      standAt pos
      holding [v, ov, iv] (setItem ov iv v)
      release [v, ov, iv] []) := by intro _; rfl) : ∃ g, GZ C X (.Subscript o i pos) g (zgSub zo zi) := by
  obtain ⟨to, o1, o2⟩ := ho.ex
  obtain ⟨ti, i1, i2⟩ := hi.ex
  refine ⟨_, pg_sub o1 i1 set_list ha, fun S A σ H Γ Δ v d P Q hs hc r hz k => o2 S A σ H Γ Δ _ _ hs hc hz fun ov od A1 H1 Δ1 e1 c1 r1 hz1 => i2 S A1 σ H1 Γ Δ1 _ _ (hs.ext e1) c1 hz1 fun iv id A2 H2 Δ2 e2 c2 r2 hz2 => ?_⟩
  obtain ⟨n, ds, i, j, rfl, hd, rfl, hj, p⟩ := hz2
  cases r2
  cases r1.ext e2 with
  | cell g =>
    obtain ⟨xs, g1, g2⟩ := c2.at_ n _ _ g hd
    have q := c2.put g (g2.set j (r.ext (e1.trans e2)))
    exact ⟨_, xs, i, j, rfl, rfl, g1, by rw [g2.length]; exact hj, k σ A2 _ Γ _ ((e1.trans e2).trans q.2) ((hs.ext (e1.trans e2)).ext q.2) q.1 p⟩
end

/-! ### statements -/
def zNext : ZS := fun Z Γ Δ => Z.nx Γ Δ
def zSeq (t u : ZS) : ZS := fun Z Γ Δ => t { Z with nx := u Z } Γ Δ
def zBreak : ZS := fun Z Γ Δ => Z.bk Γ Δ
def zCont : ZS := fun Z Γ Δ => Z.ct Γ Δ
def zDrop (z : ZE) : ZS := fun Z Γ Δ => z Γ Δ fun _ Δ1 => Z.nx Γ Δ1
def zRet (z : ZE) : ZS := fun Z Γ Δ => z Γ Δ Z.rt
def zRetN : ZS := fun Z _ Δ => Z.rt .non Δ
def zIfS (t : ZT) (a b : ZS) : ZS := fun Z Γ Δ => t Γ Δ fun c Δ1 => (c = true → a Z Γ Δ1) ∧ (c = false → b Z Γ Δ1)
def zNever : ZS := fun _ _ _ => False
def zAsg (z : ZE) (g : ZG) : ZS := fun Z Γ Δ => z Γ Δ fun d Δ1 => g d Γ Δ1 Z.nx
def zPar (i j : Nat) (za : ZA) : ZS := fun Z Γ Δ => za Γ Δ fun ds Δ1 => ∃ a b, ds = [a, b] ∧ Z.nx ((Γ.set i (some a)).set j (some b)) Δ1
def zWhile (t : ZT) (zs : ZS) : ZS := fun Z Γ Δ => ∃ W : Nat → Env → Store → Prop, (∃ m, W m Γ Δ) ∧ ∀ m Γ Δ, W m Γ Δ → t Γ Δ fun b Δ1 =>
  (b = true → zs { Z with nx := fun Γ' Δ' => ∃ m', m' < m ∧ W m' Γ' Δ', ct := fun Γ' Δ' => ∃ m', m' < m ∧ W m' Γ' Δ', bk := Z.nx } Γ Δ1) ∧ (b = false → Z.nx Γ Δ1)
section
variable {C : CI} {X : Cx} {st : Stmt} {rest : List Stmt} {t u : ZS} {e : Expr} {ze : ZE} {pos : Pos}
theorem szs_nil : SZs C X [] zNext := ⟨_, pss_nil, fun S A σ H Γ Δ Z N hs hc hz k => k.nx σ A H Γ Δ (Ext.refl _ _) hs hc hz⟩
theorem szs_cons (h1 : SZ C X st t) (h2 : SZs C X rest u) : SZs C X (st :: rest) (zSeq t u) := by
  obtain ⟨a, a1, a2⟩ := h1.ex
  obtain ⟨b, b1, b2⟩ := h2.ex
  exact ⟨_, pss_cons a1 b1, fun S A σ H Γ Δ Z N hs hc hz k => a2 S A σ H Γ Δ { Z with nx := u Z } { N with nx := b N } hs hc hz
    ⟨fun σ' A' H' Γ' Δ' e s c z => b2 S A' σ' H' Γ' Δ' Z N s c z (k.ext e), k.bk, k.ct, k.rt⟩⟩
theorem szs_one (h1 : SZ C X st t) : SZs C X [st] t := by
  obtain ⟨a, a1, a2⟩ := h1.ex
  exact ⟨_, pss_one a1, a2⟩
theorem szs_never {sts : List Stmt} : SZs C X sts zNever := ⟨_, pss_never, fun S A σ H Γ Δ Z N hs hc hz k => hz.elim⟩
theorem sz_never : SZ C X st zNever := ⟨_, ps_never, fun S A σ H Γ Δ Z N hs hc hz k => hz.elim⟩
theorem sz_pass : SZ C X (.Pass pos) zNext := ⟨_, ps_pass, fun S A σ H Γ Δ Z N hs hc hz k => k.nx σ A H Γ Δ (Ext.refl _ _) hs hc hz⟩
theorem sz_break : SZ C X (.Break pos) zBreak := ⟨_, ps_break, fun S A σ H Γ Δ Z N hs hc hz k => k.bk σ A H Γ Δ (Ext.refl _ _) hs hc hz⟩
theorem sz_continue : SZ C X (.Continue pos) zCont := ⟨_, ps_continue, fun S A σ H Γ Δ Z N hs hc hz k => k.ct σ A H Γ Δ (Ext.refl _ _) hs hc hz⟩
theorem sz_expr (h : EZ C X e ze) (hs : swapsWith e none pos.line X.env = pure false := by rfl) : SZ C X (.Expr e pos) (zDrop ze) := by
  obtain ⟨t, h1, h2⟩ := h.ex
  exact ⟨_, ps_expr h1 hs, fun S A σ H Γ Δ Z N hs hc hz k => h2 S A σ H Γ Δ _ _ hs hc hz fun v d A' H' Δ' e c r p => k.nx σ A' H' Γ Δ' e (hs.ext e) c p⟩
theorem sz_ret (h : EZ C X e ze) : SZ C X (.Return (some e) pos) (zRet ze) := by
  obtain ⟨t, h1, h2⟩ := h.ex
  exact ⟨_, ps_ret h1, fun S A σ H Γ Δ Z N hs hc hz k => h2 S A σ H Γ Δ _ _ hs hc hz fun v d A' H' Δ' e c r p => k.rt v d A' H' Δ' e c r p⟩
theorem sz_retN : SZ C X (.Return none pos) zRetN := ⟨_, ps_retN, fun S A σ H Γ Δ Z N hs hc hz k => k.rt _ _ A H Δ (Ext.refl _ _) hc .non hz⟩
theorem sz_if {c : Expr} {a b : List Stmt} {zc : ZT} (hc : TZ C X c zc) (ha : SZs C X a t) (hb : SZs C X b u) : SZ C X (.If c a b pos) (zIfS zc t u) := by
  obtain ⟨tc, c1, c2⟩ := hc.ex
  obtain ⟨ta, a1, a2⟩ := ha.ex
  obtain ⟨tb, b1, b2⟩ := hb.ex
  refine ⟨_, ps_if c1 a1 b1, fun S A σ H Γ Δ Z N hs hc hz k => c2 S A σ H Γ Δ _ _ hs hc hz fun d A1 H1 Δ1 e1 c1 hz1 => ?_⟩
  cases d with
  | true => exact iteT (a2 S A1 σ H1 Γ Δ1 Z N (hs.ext e1) c1 (hz1.1 rfl) (k.ext e1))
  | false => exact iteF (b2 S A1 σ H1 Γ Δ1 Z N (hs.ext e1) c1 (hz1.2 rfl) (k.ext e1))
theorem ref_asg {K : PySem.W.Frag} {te : TE} {g : TG} {zg : ZG} (h : RefE K C te ze) (hg : RefG K C g zg) : RefS K C (tAsg te g) (zAsg ze zg) := fun S A σ H Γ Δ Z N hs hc hz k =>
  h S A σ H Γ Δ _ _ hs hc hz fun v d A1 H1 Δ1 e1 c1 r1 p => hg S A1 σ H1 Γ Δ1 v d Z.nx N.nx (hs.ext e1) c1 r1 p (k.nx.ext e1)
theorem sz_asg {tg : Expr} {g : TG} {zg : ZG} (h : EZ C X e ze) (hg : GZ C X tg g zg) (hs : swapsWithSole [tg] e pos.line X.env = pure false := by rfl) (hw : swappedStores [tg] e X.env = pure none := by rfl)
    (h1 : (assignEach [tg] X.env).map (·.2) = [assign tg X.env] := by rfl) : SZ C X (.Assign [tg] e pos) (zAsg ze zg) := by
  obtain ⟨t, a1, a2⟩ := h.ex
  exact ⟨_, ps_asg a1 hg.pg hs hw h1, ref_asg a2 hg.ref⟩
theorem sz_asgSub {tg : Expr} {zg : ZG} (h : EZ C X e ze) (hg : ∃ g, GZ C X tg g zg) (hs : swapsWithSole [tg] e pos.line X.env = pure false := by rfl) (hw : swappedStores [tg] e X.env = pure none := by rfl)
    (h1 : (assignEach [tg] X.env).map (·.2) = [assign tg X.env] := by rfl) : SZ C X (.Assign [tg] e pos) (zAsg ze zg) := by
  obtain ⟨g, hg⟩ := hg
  exact sz_asg h hg hs hw h1
theorem sz_set {i : Nat} {x : Str} {pos' : Pos} (hN : X.N.Nodup) (h : EZ C X e ze) (hi : X.N[i]? = some x := by rfl) (hx : Loc X.env.scope x := by first | exact Or.inl rfl | exact Or.inr rfl) (hs : swapsWith e (some (.Name x pos')) pos.line X.env = pure false := by rfl)
    (hf : X.fn x = true ∨ X.env.scope.names.lookup x = some .local := by first | exact .inl rfl | exact .inr rfl | assumption) : SZ C X (.Assign [.Name x pos'] e pos) (zAsg ze (zgName i)) := by
  obtain ⟨t, a1, a2⟩ := h.ex
  exact ⟨_, ps_set hN hi hx a1 hs hf, ref_asg a2 (gz_name (C := C) (pos := pos') hN hi hx hf).ref⟩
theorem sz_par {i j : Nat} {x y : Str} {a b : Expr} {za : ZA} {px py pt : Pos} {kt k2 pt2} (hN : X.N.Nodup) (hi : X.N[i]? = some x) (hj : X.N[j]? = some y) (hij : i ≠ j)
    (hx : X.env.scope.names.lookup x = some .local) (hy : X.env.scope.names.lookup y = some .local) (ha : AZ C X [a, b] za)
    (hw : swappedStores [.Tuple [.Name x px, .Name y py] kt pt] (.Tuple [a, b] k2 pt2) X.env = pure (some [x, y]) := by rfl)
    (hs : swapsWithSole [.Tuple [.Name x px, .Name y py] kt pt] (.Tuple [a, b] k2 pt2) pos.line X.env = pure false := by rfl) (hc : X.calm = true := by rfl) :
    SZ C X (.Assign [.Tuple [.Name x px, .Name y py] kt pt] (.Tuple [a, b] k2 pt2) pos) (zPar i j za) := by
  obtain ⟨t, a1, a2⟩ := ha.ex
  refine ⟨_, ps_par hc hN hi hj hij hx hy a1 hw hs, fun S A σ H Γ Δ Z N hs hc hz k => a2 S A σ H Γ Δ _ _ hs hc hz fun vs ds A1 H1 Δ1 e1 c1 r1 p => ?_⟩
  obtain ⟨a, b, rfl, p⟩ := p
  cases r1 with
  | cons r1 r2 =>
    cases r2 with
    | cons r2 r3 =>
      cases r3
      exact ⟨_, _, rfl, k.nx _ A1 H1 _ Δ1 e1 (((hs.ext e1).set i r1).set j r2) c1 p⟩
theorem sz_while {c : Expr} {body : List Stmt} {zc : ZT} {zb : ZS} (hc : TZ C X c zc) (hb : SZs C X body zb) (hp : PassesOwn (model X.prog X.w) X.A X.env X.xe := by exact PassesOwn.never) : SZ C X (.While c body [] pos) (zWhile zc zb) := by
  obtain ⟨tc, c1, c2⟩ := hc.ex
  obtain ⟨tb, b1, b2⟩ := hb.ex
  refine ⟨_, ps_while hp c1 b1, fun S A σ H Γ Δ Z N hs hc hz k => ?_⟩
  obtain ⟨W, ⟨m0, w0⟩, hW⟩ := hz
  refine ⟨fun m σ' H' => ∃ A' Γ' Δ', Ext A H A' H' ∧ Slots X.K C S A' H' σ' Γ' ∧ Cells X.K C S A' H' Δ' ∧ W m Γ' Δ', ⟨m0, A, Γ, Δ, Ext.refl _ _, hs, hc, w0⟩, ?_⟩
  rintro m σ' H' ⟨A', Γ', Δ', e, s, c, w⟩
  refine c2 S A' σ' H' Γ' Δ' _ _ s c (hW m Γ' Δ' w) fun b A1 H1 Δ1 e1 c1 p => ?_
  cases b with
  | false => exact iteF (k.nx σ' A1 H1 Γ' Δ1 (e.trans e1) (s.ext e1) c1 (p.2 rfl))
  | true =>
    refine iteT ⟨fun σ2 H2 => ∃ A2 Γ2 Δ2, Ext A H A2 H2 ∧ Slots X.K C S A2 H2 σ2 Γ2 ∧ Cells X.K C S A2 H2 Δ2 ∧ ∃ m', m' < m ∧ W m' Γ2 Δ2, ?_, ?_⟩
    · rintro σ2 H2 ⟨A2, Γ2, Δ2, e2, s2, c2, m', hm, w'⟩
      exact ⟨m', hm, A2, Γ2, Δ2, e2, s2, c2, w'⟩
    · refine b2 S A1 σ' H1 Γ' Δ1 _ _ (s.ext e1) c1 (p.1 rfl) ⟨?_, ?_, ?_, ?_⟩
      · exact fun σ2 A2 H2 Γ2 Δ2 e2 s2 c2 q => ⟨A2, Γ2, Δ2, (e.trans e1).trans e2, s2, c2, q⟩
      · exact k.nx.ext (e.trans e1)
      · exact fun σ2 A2 H2 Γ2 Δ2 e2 s2 c2 q => ⟨A2, Γ2, Δ2, (e.trans e1).trans e2, s2, c2, q⟩
      · exact fun v d A2 H2 Δ2 e2 c2 r q => k.rt v d A2 H2 Δ2 ((e.trans e1).trans e2) c2 r q

/-! ### what is walked -/
abbrev ZI := Env → Store → (List D → Store → Prop) → Prop
def RefI (K : PySem.W.Frag) (C : CI) (wi : TI) (zi : ZI) : Prop := ∀ (S A : List Addr) (σ : L2.St) (H : Hp) (Γ : Env) (Δ : Store) (P : List D → Store → Prop) (R : It → Hp → Prop), Slots K C S A H σ Γ → Cells K C S A H Δ → zi Γ Δ P →
  (∀ (J : It) (n : Nat) (G : Hp → Prop) (Y : Nat → Hp → V → Hp → Prop) (items : List D) (A' : List Addr) (H' : Hp) (Δ' : Store), Ext A H A' H' → Cells K C S A' H' Δ' → P items Δ' → n = items.length → Walk J n G Y →
    (∀ S2 A2 H2, Mo S A' H' S2 A2 H2 → G H2) →
    (∀ S2 A2 H2 Δ2 i x H3, i < n → Mo S A' H' S2 A2 H2 → Cells K C S2 A2 H2 Δ2 → Y i H2 x H3 → ∃ d, items[i]? = some d ∧ (∀ a o, H2 a = some o → H3 a = some o) ∧ Rep K C S2 A2 H3 x d) → R J H') → wi σ H R
structure IZ (C : CI) (X : Cx) (tg iter : Expr) (zi : ZI) : Prop where
  ex : ∃ wi, PI X tg iter wi ∧ RefI X.K C wi zi
theorem Ext.kept {A : List Addr} {H H' : Hp} (k : ∀ a o, H a = some o → H' a = some o) : Ext A H A H' := ⟨⟨[], by simp, by simp⟩, fun a o _ h => k a o h, fun a h => by
  cases q : H a with
  | none => rfl
  | some o => rw [k a o q] at h; cases h⟩
/-- a list (its own, or the script) -/
def ziList (z : ZE) : ZI := fun Γ Δ P => z Γ Δ fun d Δ1 => (∃ ds, d = .lst ds ∧ P ds Δ1) ∨ ∃ ns, d = .scr ns ∧ P (ns.map D.int) Δ1
theorem iz_list {tg iter : Expr} {z : ZE} (h : EZ C X iter z) : IZ C X tg iter (ziList z) := by
  obtain ⟨t, h1, h2⟩ := h.ex
  refine ⟨_, pi_list h1, fun S A σ H Γ Δ P R hs hc hz k => h2 S A σ H Γ Δ _ _ hs hc hz fun v d A1 H1 Δ1 e1 c1 r1 p => ?_⟩
  rcases p with ⟨ds, rfl, p⟩ | ⟨ns, rfl, p⟩
  · cases r1 with
    | lst g1 g2 g3 g4 =>
      rename_i a xs
      refine ⟨a, rfl, ⟨xs, SqL.of g1⟩, ?_⟩
      refine k (Itl X.K a) xs.length (fun H => SqL X.K H a xs) (YAt xs) ds A1 H1 Δ1 e1 c1 p g4.length walk_list (fun S2 A2 H2 m => SqL.of (m.keep _ _ g2 g3 g1)) fun S2 A2 H2 Δ2 i x H3 hi m c2 y => ?_
      obtain ⟨rfl, y⟩ := y
      obtain ⟨d, q1, q2⟩ := (RepL.mono m ds g4).getV y
      exact ⟨d, q1, fun _ _ h => h, q2⟩
  · cases r1 with
    | scr g =>
      rename_i a
      refine ⟨a, rfl, ?_, ?_⟩
      · rcases g with ⟨⟨o, g⟩, _⟩ | g
        · exact ⟨_, .inl (.inr ⟨o, g⟩)⟩
        · exact ⟨_, .inr g⟩
      · refine k (Itl X.K a) (ns.map V.int).length (fun H => SqL X.K H a (ns.map V.int)) (YAt (ns.map V.int)) (ns.map D.int) A1 H1 Δ1 e1 c1 p (by rw [List.length_map, List.length_map]) walk_list (fun S2 A2 H2 m => ?_) fun S2 A2 H2 Δ2 i x H3 hi m c2 y => ?_
        · rcases g with ⟨⟨o, g⟩, gA, gS⟩ | g
          · exact .inl (.inr ⟨o, m.keep _ _ gA gS g⟩)
          · exact .inr g
        · obtain ⟨rfl, y⟩ := y
          obtain ⟨d, q1, q2⟩ := (repL_ints (K := X.K) (C := C) (S := S2) (A := A2) (H := H3) ns).getV y
          exact ⟨d, q1, fun _ _ h => h, q2⟩
/-- a tuple -/
def ziTup (z : ZE) : ZI := fun Γ Δ P => z Γ Δ fun d Δ1 => ∃ ds, d = .tup ds ∧ P ds Δ1
theorem iz_tup {tg iter : Expr} {z : ZE} (h : EZ C X iter z) : IZ C X tg iter (ziTup z) := by
  obtain ⟨t, h1, h2⟩ := h.ex
  refine ⟨_, pi_tup h1, fun S A σ H Γ Δ P R hs hc hz k => h2 S A σ H Γ Δ _ _ hs hc hz fun v d A1 H1 Δ1 e1 c1 r1 p => ?_⟩
  obtain ⟨ds, rfl, p⟩ := p
  cases r1 with
  | tup g1 g2 g3 g4 =>
    rename_i a xs
    refine ⟨a, rfl, ⟨xs, SqT.of g1⟩, ?_⟩
    refine k (Itt X.K a) xs.length (fun H => SqT X.K H a xs) (YAt xs) ds A1 H1 Δ1 e1 c1 p g4.length walk_tup (fun S2 A2 H2 m => SqT.of (m.keep _ _ g2 g3 g1)) fun S2 A2 H2 Δ2 i x H3 hi m c2 y => ?_
    obtain ⟨rfl, y⟩ := y
    obtain ⟨d, q1, q2⟩ := (RepL.mono m ds g4).getV y
    exact ⟨d, q1, fun _ _ h => h, q2⟩
/-- lo, lo + 1, .. below hi -/
def rangeD (lo hi : Int) : List D := (List.range (hi - lo).toNat).map fun (i : Nat) => D.int (lo + ((i : Nat) : Int))
theorem rangeD_len (lo hi : Int) : (rangeD lo hi).length = (hi - lo).toNat := by unfold rangeD; rw [List.length_map, List.length_range]
def ziR1 (z : ZA) : ZI := fun Γ Δ P => z Γ Δ fun ds Δ1 => ∃ n, ds = [.int n] ∧ -(2 ^ 62) ≤ n ∧ n < 2 ^ 62 ∧ P (rangeD 0 n) Δ1
def ziR2 (z : ZA) : ZI := fun Γ Δ P => z Γ Δ fun ds Δ1 => ∃ a b, ds = [.int a, .int b] ∧ -(2 ^ 62) ≤ a ∧ a < 2 ^ 62 ∧ -(2 ^ 62) ≤ b ∧ b < 2 ^ 62 ∧ P (rangeD a b) Δ1
theorem range_get {lo hi : Int} {i : Nat} (h : i < (hi - lo).toNat) : (rangeD lo hi)[i]? = some (.int (lo + (i : Int))) := by
  unfold rangeD
  rw [List.getElem?_map, List.getElem?_range h] <;> rfl
theorem ref_range {K : PySem.W.Frag} {S A A1 : List Addr} {H H1 : Hp} {Δ1 : Store} {P : List D → Store → Prop} {R : It → Hp → Prop} {lo hi : Int} (e1 : Ext A H A1 H1) (c1 : Cells K C S A1 H1 Δ1) (p : P (rangeD lo hi) Δ1)
    (k : ∀ (J : It) (n : Nat) (G : Hp → Prop) (Y : Nat → Hp → V → Hp → Prop) (items : List D) (A' : List Addr) (H' : Hp) (Δ' : Store), Ext A H A' H' → Cells K C S A' H' Δ' → P items Δ' → n = items.length → Walk J n G Y →
    (∀ S2 A2 H2, Mo S A' H' S2 A2 H2 → G H2) →
    (∀ S2 A2 H2 Δ2 i x H3, i < n → Mo S A' H' S2 A2 H2 → Cells K C S2 A2 H2 Δ2 → Y i H2 x H3 → ∃ d, items[i]? = some d ∧ (∀ a o, H2 a = some o → H3 a = some o) ∧ Rep K C S2 A2 H3 x d) → R J H') : R (Itr lo (hi - lo).toNat) H1 := by
  refine k (Itr lo (hi - lo).toNat) _ (fun _ => True) _ _ A1 H1 Δ1 e1 c1 p (rangeD_len lo hi).symm walk_range (fun _ _ _ _ => trivial) fun S2 A2 H2 Δ2 i x H3 hi' m c2 y => ?_
  obtain ⟨rfl, rfl⟩ := y
  exact ⟨_, range_get hi', fun _ _ h => h, .int _⟩
theorem iz_r1 {tg a : Expr} {z : ZA} {p pos : Pos} (h : AZ C X [a] z) (hm : X.mg "range" = none) (hg : Gl X "range" := by rfl) (hs : starEach [a] X.env = [(false, eval a X.env)] := by rfl) : IZ C X tg (.Call (.Name "range" p) [a] [] pos) (ziR1 z) := by
  obtain ⟨t, h1, h2⟩ := h.ex
  refine ⟨_, pi_range1 hg hm h1 hs, fun S A σ H Γ Δ P R hs hc hz k => h2 S A σ H Γ Δ _ _ hs hc hz fun vs ds A1 H1 Δ1 e1 c1 r1 p => ?_⟩
  obtain ⟨n, rfl, g1, g2, p⟩ := p
  cases r1 with
  | cons r1 r2 =>
    cases r1
    cases r2
    refine ⟨n, rfl, g1, g2, ?_⟩
    have q := ref_range (R := R) e1 c1 p k
    rw [Int.sub_zero] at q
    exact q
theorem iz_r2 {tg a b : Expr} {z : ZA} {p pos : Pos} (h : AZ C X [a, b] z) (hm : X.mg "range" = none) (hg : Gl X "range" := by rfl) (hs : starEach [a, b] X.env = [(false, eval a X.env), (false, eval b X.env)] := by rfl) (hs2 : starEach [b] X.env = [(false, eval b X.env)] := by rfl) :
    IZ C X tg (.Call (.Name "range" p) [a, b] [] pos) (ziR2 z) := by
  obtain ⟨t, h1, h2⟩ := h.ex
  refine ⟨_, pi_range2 hg hm h1 hs hs2, fun S A σ H Γ Δ P R hs hc hz k => h2 S A σ H Γ Δ _ _ hs hc hz fun vs ds A1 H1 Δ1 e1 c1 r1 p => ?_⟩
  obtain ⟨a, b, rfl, g1, g2, g3, g4, p⟩ := p
  cases r1 with
  | cons r1 r2 =>
    cases r1
    cases r2 with
    | cons r2 r3 =>
      cases r2
      cases r3
      exact ⟨a, b, rfl, ⟨g1, g2, g3, g4⟩, ref_range (R := R) e1 c1 p k⟩

/-! ### for -/
def loopZ (body : D → ZS) (Z : ZEnds) : List D → Env → Store → Prop
  | [], Γ, Δ => Z.nx Γ Δ
  | x :: xs, Γ, Δ => body x { Z with nx := loopZ body Z xs, ct := loopZ body Z xs, bk := Z.nx } Γ Δ
def zFor (zi : ZI) (g : ZG) (zs : ZS) : ZS := fun Z Γ Δ => zi Γ Δ fun items Δ1 => loopZ (fun x Z' Γ' Δ' => g x Γ' Δ' fun Γ2 Δ2 => zs Z' Γ2 Δ2) Z items Γ Δ1
theorem sz_for {tg iter : Expr} {body : List Stmt} {zi : ZI} {g : TG} {zg : ZG} {zb : ZS} (hi : IZ C X tg iter zi) (hg : GZ C X tg g zg) (hb : SZs C X body zb) (hp : PassesOwn (model X.prog X.w) X.A X.env X.xe := by exact PassesOwn.never) (hc : X.calm = true := by rfl)
    (hs : ∀ x, foldedSetIterable iter X.env x = pure x := by intro _; rfl) : SZ C X (.For tg iter body [] pos) (zFor zi zg zb) := by
  obtain ⟨wi, i1, i2⟩ := hi.ex
  obtain ⟨tb, b1, b2⟩ := hb.ex
  refine ⟨_, ps_for hp hc i1 hg.pg b1 hs, fun S A σ H Γ Δ Z N hs hc hz k => i2 S A σ H Γ Δ _ _ hs hc hz fun J n G Y items A1 H1 Δ1 e1 c1 p hn w hG hY => ?_⟩
  refine for_it w (fun i σ2 H2 => ∃ A2 Γ2 Δ2, Ext A1 H1 A2 H2 ∧ Slots X.K C S A2 H2 σ2 Γ2 ∧ Cells X.K C S A2 H2 Δ2 ∧ loopZ (fun x Z' Γ' Δ' => zg x Γ' Δ' fun Γ2 Δ2 => zb Z' Γ2 Δ2) Z (items.drop i) Γ2 Δ2)
    ⟨A1, Γ, Δ1, Ext.refl _ _, hs.ext e1, c1, p⟩ (fun i σ2 H2 _ ⟨A2, Γ2, Δ2, e2, _, _, _⟩ => hG S A2 H2 e2.mo) ?_ ?_
  · rintro i x σ2 H2 H3 hi ⟨A2, Γ2, Δ2, e2, s2, c2, q⟩ y
    obtain ⟨d, q1, q2, q3⟩ := hY S A2 H2 Δ2 i x H3 hi e2.mo c2 y
    have hd : items.drop i = d :: items.drop (i + 1) := by
      obtain ⟨hl, q⟩ := List.getElem?_eq_some_iff.mp q1
      rw [← q]
      exact List.drop_eq_getElem_cons hl
    rw [hd] at q
    have e3 : Ext A2 H2 A2 H3 := Ext.kept q2
    refine hg.ref S A2 σ2 H3 Γ2 Δ2 x d _ _ (s2.ext e3) (c2.kept q2) q3 q fun σ4 A4 H4 Γ4 Δ4 e4 s4 c4 p4 => ?_
    have e14 := (e2.trans e3).trans e4
    refine b2 S A4 σ4 H4 Γ4 Δ4 _ _ s4 c4 p4 ⟨?_, ?_, ?_, ?_⟩
    · exact fun σ5 A5 H5 Γ5 Δ5 e5 s5 c5 p5 => ⟨A5, Γ5, Δ5, e14.trans e5, s5, c5, p5⟩
    · exact k.nx.ext (e1.trans e14)
    · exact fun σ5 A5 H5 Γ5 Δ5 e5 s5 c5 p5 => ⟨A5, Γ5, Δ5, e14.trans e5, s5, c5, p5⟩
    · exact fun v d A5 H5 Δ5 e5 c5 r5 p5 => k.rt v d A5 H5 Δ5 ((e1.trans e14).trans e5) c5 r5 p5
  · rintro σ2 H2 ⟨A2, Γ2, Δ2, e2, s2, c2, q⟩
    rw [hn, List.drop_length] at q
    exact k.nx σ2 A2 H2 Γ2 Δ2 (e1.trans e2) s2 c2 q
end
end Z

/-! Z4: comprehensions, zip, enumerate, calls of defs and built-ins over data. -/
namespace Z
open PySem L2

/-! ### slots forgotten -/
def wipeZ (Γ : Env) : List Nat → Env
  | [] => Γ
  | v :: vs => (wipeZ Γ vs).set v none
theorem wipeZ_length (Γ : Env) : ∀ vs : List Nat, (wipeZ Γ vs).length = Γ.length
  | [] => rfl
  | v :: vs => by unfold wipeZ; rw [List.length_set, wipeZ_length Γ vs]
theorem wipeZ_some {Γ : Env} {i : Nat} {d : D} : ∀ {vs : List Nat}, (wipeZ Γ vs)[i]? = some (some d) → Γ[i]? = some (some d) ∧ i ∉ vs
  | [], h => ⟨h, by simp⟩
  | v :: vs, h => by
    unfold wipeZ at h
    by_cases e : i = v
    · subst e
      by_cases hl : i < (wipeZ Γ vs).length
      · rw [List.getElem?_set_self hl] at h; cases h
      · rw [List.getElem?_eq_none (by rw [List.length_set]; omega)] at h; cases h
    · rw [List.getElem?_set_ne (Ne.symm e)] at h
      obtain ⟨h1, h2⟩ := wipeZ_some h
      exact ⟨h1, by simp [e, h2]⟩
theorem wipe_get {σ : L2.St} {i : Nat} : ∀ {vs : List Nat}, i ∉ vs → (wipe σ vs)[i]? = σ[i]?
  | [], _ => rfl
  | v :: vs, h => by
    unfold wipe
    have h1 : i ≠ v := fun e => h (by simp [e])
    rw [List.getElem?_set_ne (Ne.symm h1)]
    exact wipe_get fun q => h (List.mem_cons_of_mem _ q)
theorem wipe_in {σ : L2.St} {i : Nat} : ∀ {vs : List Nat}, i ∈ vs → (wipe σ vs)[i]? = if i < σ.length then some none else none
  | v :: vs, h => by
    unfold wipe
    by_cases e : i = v
    · subst e
      by_cases hl : i < σ.length
      · rw [List.getElem?_set_self (by rw [wipe_length]; exact hl), if_pos hl]
      · rw [List.getElem?_eq_none (by rw [List.length_set, wipe_length]; omega), if_neg hl]
    · rw [List.getElem?_set_ne (Ne.symm e)]
      exact wipe_in ((List.mem_cons.mp h).resolve_left e)
theorem wipe_ext {σ τ : L2.St} {vs : List Nat} (hl : σ.length = τ.length) (h : ∀ i, i ∉ vs → σ[i]? = τ[i]?) : wipe σ vs = wipe τ vs := by
  refine List.ext_getElem? fun i => ?_
  by_cases hi : i ∈ vs
  · rw [wipe_in hi, wipe_in hi, hl]
  · rw [wipe_get hi, wipe_get hi]; exact h i hi
theorem wipe_wipe (σ : L2.St) (vs : List Nat) : wipe (wipe σ vs) vs = wipe σ vs := wipe_ext (wipe_length σ vs) fun i hi => wipe_get hi
theorem wipe_set {σ : L2.St} {i : Nat} {x : Option V} {vs : List Nat} (hi : i ∈ vs) : wipe (σ.set i x) vs = wipe σ vs :=
  wipe_ext (by rw [List.length_set]) fun j hj => by rw [List.getElem?_set_ne (fun e => hj (by rw [← e]; exact hi))]
theorem Slots.wipe {K : PySem.W.Frag} {C : CI} {S A : List Addr} {H : Hp} {σ : L2.St} {Γ : Env} (h : Slots K C S A H σ Γ) (vs : List Nat) : Slots K C S A H (L2.wipe σ vs) (wipeZ Γ vs) := by
  refine ⟨by rw [wipe_length, wipeZ_length]; exact h.len, fun i d q => ?_⟩
  obtain ⟨h1, h2⟩ := wipeZ_some q
  obtain ⟨v, g1, g2⟩ := h.at_ i d h1
  exact ⟨v, by rw [wipe_get h2]; exact g1, g2⟩
/-- a target that stores into the slots vs alone -/
def Own (g : TG) (vs : List Nat) : Prop := ∀ x σ H Q, g x σ H Q → g x σ H fun σ2 H2 => wipe σ2 vs = wipe σ vs ∧ Q σ2 H2
def Owns (g : TGs) (vs : List Nat) : Prop := ∀ xs σ H Q, g xs σ H Q → g xs σ H fun σ2 H2 => wipe σ2 vs = wipe σ vs ∧ Q σ2 H2
theorem own_name {i : Nat} {vs : List Nat} (h : i ∈ vs) : Own (gName i) vs := fun _ _ _ _ q => ⟨wipe_set h, q⟩
theorem owns_nil {vs : List Nat} : Owns gNil vs := fun _ _ _ _ q => ⟨q.1, rfl, q.2⟩
theorem gName_eq {i : Nat} {x : V} {σ : L2.St} {H : Hp} {Q : L2.St → Hp → Prop} : gName i x σ H Q = Q (σ.set i (some x)) H := rfl
theorem owns_cons {i : Nat} {gs : TGs} {vs : List Nat} (h : i ∈ vs) (hs : Owns gs vs) : Owns (gCons (gName i) gs) vs := fun xs σ H Q q => by
  obtain ⟨v, r, e, q⟩ := q
  refine ⟨v, r, e, ?_⟩
  have q' : gs r (σ.set i (some v)) H Q := q
  have := hs _ _ _ _ q'
  rw [wipe_set h] at this
  exact this
theorem own_tup {K : PySem.W.Frag} {n : Nat} {gs : TGs} {vs : List Nat} (h : Owns gs vs) : Own (gTup K n gs) vs := fun x σ H Q q => by
  obtain ⟨a, xs, e, h1, h2, q⟩ := q
  exact ⟨a, xs, e, h1, h2, h _ _ _ _ q⟩

/-! ### a list comprehension -/
abbrev ZTs := ZT
def zYes : ZT := fun _ Δ P => P true Δ
structure TsZ (C : CI) (X : Cx) (es : List Expr) (z : ZT) : Prop where
  ex : ∃ tt, PTs X es tt ∧ RefT X.K C tt z
def compZ (zg : ZG) (zt : ZT) (ze : ZE) (Γ0 : Env) (P : D → Store → Prop) : List D → List D → Store → Prop
  | [], acc, Δ => P (.lst acc) Δ
  | x :: xs, acc, Δ => zg x Γ0 Δ fun Γ2 Δ2 => zt Γ2 Δ2 fun b Δ3 => (b = true → ze Γ2 Δ3 fun y Δ4 => acc.length < 100000 ∧ compZ zg zt ze Γ0 P xs (acc ++ [y]) Δ4) ∧ (b = false → compZ zg zt ze Γ0 P xs acc Δ3)
def zLc (zi : ZI) (zg : ZG) (zt : ZT) (ze : ZE) (vs : List Nat) : ZE := fun Γ Δ P => zi Γ Δ fun items Δ1 => compZ zg zt ze (wipeZ Γ vs) P items [] Δ1
theorem lt_line {n : Nat} (h : n < 100000) : n < sizeLine := Nat.lt_of_lt_of_le h (by decide)
theorem ref_lc {K : PySem.W.Frag} {C : CI} {wi : TI} {g : TG} {tt : TT} {te : TE} {vs : List Nat} {zi : ZI} {zg : ZG} {zt : ZT} {ze : ZE} (hi : RefI K C wi zi) (hg : RefG K C g zg) (ho : Own g vs) (ht : RefT K C tt zt) (he : RefE K C te ze) :
    RefE K C (tLc wi g tt te vs) (zLc zi zg zt ze vs) := fun S A σ H Γ Δ P Q hs hc hz k => hi S A σ H Γ Δ _ _ hs hc hz fun J n G Y items A1 H1 Δ1 e1 c1 p hn w hG hY q hq => by
  have s1 := hs.ext e1
  -- the list at q is set aside
  have mo0 : Mo S A1 H1 (q :: S) A1 (upd H1 q (.lst [])) := ⟨⟨[], by simp, by simp⟩, fun b hb => by
    rcases List.mem_cons.mp hb with rfl | hb
    · exact .inr hq
    · exact .inl hb, fun a o _ _ h => by rw [upd_ne (ne_of_none h hq)]; exact h⟩
  have cells0 : Cells K C (q :: S) A1 (upd H1 q (.lst [])) Δ1 := by
    refine ⟨c1.len, c1.nd, fun a ha hb => ?_, fun a ha h => ?_, fun n a o h1 h2 => (c1.at_ n a o h1 h2).mono mo0 fun u h => by rw [upd_ne (ne_of_none h hq)]; exact h⟩
    · rcases List.mem_cons.mp hb with rfl | hb
      · exact c1.fresh hq ha
      · exact c1.dj a ha hb
    · rcases List.mem_cons.mp ha with rfl | ha
      · rw [upd_same] at h; cases h
      · exact c1.as a ha ((Ext.new (A := A1) hq).trk a h)
  refine lc_it w (fun i H2 => ∃ A2 Δ2 acc accV, Ext A1 H1 A2 H2 ∧ Mo S A1 H1 (q :: S) A2 H2 ∧ Cells K C (q :: S) A2 H2 Δ2 ∧ H2 q = some (.lst accV) ∧ RepL K C (q :: S) A2 H2 accV acc ∧ compZ zg zt ze (wipeZ Γ vs) P (items.drop i) acc Δ2)
    ⟨A1, Δ1, [], [], Ext.new hq, mo0, cells0, upd_same, .nil, p⟩ (fun i H2 _ ⟨A2, Δ2, acc, accV, _, m, _⟩ => hG _ A2 H2 m) ?_ ?_
  · rintro i x H2 H3 hi2 ⟨A2, Δ2, acc, accV, e2, m2, c2, hqv, hacc, hp⟩ y
    obtain ⟨d, q1, q2, q3⟩ := hY _ A2 H2 Δ2 i x H3 hi2 m2 c2 y
    have hd : items.drop i = d :: items.drop (i + 1) := by
      obtain ⟨hl, q⟩ := List.getElem?_eq_some_iff.mp q1
      rw [← q]
      exact List.drop_eq_getElem_cons hl
    rw [hd] at hp
    have e3 : Ext A2 H2 A2 H3 := Ext.kept q2
    have s3 : Slots K C (q :: S) A2 H3 (wipe σ vs) (wipeZ Γ vs) := ((s1.mono m2).ext e3).wipe vs
    have fin : g x (wipe σ vs) H3 fun σ2 H4 => wipe σ2 vs = wipe (wipe σ vs) vs ∧ tt σ2 H4 fun b H5 =>
        if b = true then te σ2 H5 fun y H6 => ∃ acc, H6 q = some (.lst acc) ∧ acc.length < sizeLine ∧ ∃ A2 Δ2 acc' accV, Ext A1 H1 A2 (upd H6 q (.lst (acc ++ [y]))) ∧ Mo S A1 H1 (q :: S) A2 (upd H6 q (.lst (acc ++ [y]))) ∧ Cells K C (q :: S) A2 (upd H6 q (.lst (acc ++ [y]))) Δ2 ∧
          (upd H6 q (.lst (acc ++ [y]))) q = some (.lst accV) ∧ RepL K C (q :: S) A2 (upd H6 q (.lst (acc ++ [y]))) accV acc' ∧ compZ zg zt ze (wipeZ Γ vs) P (items.drop (i + 1)) acc' Δ2
        else ∃ A2 Δ2 acc accV, Ext A1 H1 A2 H5 ∧ Mo S A1 H1 (q :: S) A2 H5 ∧ Cells K C (q :: S) A2 H5 Δ2 ∧ H5 q = some (.lst accV) ∧ RepL K C (q :: S) A2 H5 accV acc ∧ compZ zg zt ze (wipeZ Γ vs) P (items.drop (i + 1)) acc Δ2 := by
      refine ho _ _ _ _ (hg (q :: S) A2 (wipe σ vs) H3 (wipeZ Γ vs) Δ2 x d _ _ s3 (c2.kept q2) q3 hp fun σ4 A4 H4 Γ4 Δ4 e4 s4 c4 p4 => ?_)
      refine ht (q :: S) A4 σ4 H4 Γ4 Δ4 _ _ s4 c4 p4 fun b A5 H5 Δ5 e5 c5 p5 => ?_
      have e25 := (e3.trans e4).trans e5
      have e15 := e2.trans e25
      have hq2 : q ∉ A2 := fun h => c2.dj q h List.mem_cons_self
      have hq5 : H5 q = some (.lst accV) := e25.keep q _ hq2 hqv
      have m5 : Mo S A1 H1 (q :: S) A5 H5 := ⟨e15.pre, m2.sub, fun a o h1 _ h3 => e15.keep a o h1 h3⟩
      cases b with
      | false => exact iteF ⟨A5, Δ5, acc, accV, e15, m5, c5, hq5, hacc.ext e25, p5.2 rfl⟩
      | true =>
        refine iteT (he (q :: S) A5 σ4 H5 Γ4 Δ5 _ _ (s4.ext e5) c5 (p5.1 rfl) fun y dy A6 H6 Δ6 e6 c6 r6 p6 => ?_)
        have e16 := e15.trans e6
        have hq5' : q ∉ A5 := fun h => c5.dj q h List.mem_cons_self
        have hq6' : q ∉ A6 := fun h => c6.dj q h List.mem_cons_self
        have hq6 : H6 q = some (.lst accV) := e6.keep q _ hq5' hq5
        have hacc6 := (hacc.ext e25).ext e6
        have mo7 : Mo (q :: S) A6 H6 (q :: S) A6 (upd H6 q (.lst (accV ++ [y]))) := ⟨⟨[], by simp, by simp⟩, fun _ h => .inl h, fun a o _ h2 h3 => by
          rw [upd_ne (fun h => h2 (by rw [h]; exact List.mem_cons_self))]; exact h3⟩
        have nq : ∀ a o, H1 a = some o → a ≠ q := fun a o h => ne_of_none h hq
        refine ⟨accV, hq6, lt_line (by rw [hacc6.length]; exact p6.1), A6, Δ6, acc ++ [dy], accV ++ [y], ?_, ?_, ?_, upd_same, ?_, p6.2⟩
        · exact ⟨e16.pre, fun a o h1 h2 => by rw [upd_ne (nq a o h2)]; exact e16.keep a o h1 h2, fun a h => by
            by_cases hb : a = q
            · subst hb; exact hq
            · rw [upd_ne hb] at h; exact e16.trk a h⟩
        · exact ⟨e16.pre, m2.sub, fun a o h1 _ h3 => by rw [upd_ne (nq a o h3)]; exact e16.keep a o h1 h3⟩
        · refine ⟨c6.len, c6.nd, c6.dj, fun a ha h => ?_, fun n a o h1 h2 => (c6.at_ n a o h1 h2).mono mo7 fun u h => ?_⟩
          · by_cases hb : a = q
            · subst hb; rw [upd_same] at h; cases h
            · rw [upd_ne hb] at h; exact c6.as a ha h
          · rw [upd_ne (fun hb => hq6' (by rw [← hb]; exact List.mem_of_getElem? h1))]; exact h
        · exact (RepL.append hacc6 (.cons r6 .nil)).mono mo7 _
    rw [wipe_wipe] at fin
    exact fin
  · rintro H2 ⟨A2, Δ2, acc, accV, e2, m2, c2, hqv, hacc, hp⟩
    rw [hn, List.drop_length] at hp
    have hq2 : q ∉ A2 := fun h => c2.dj q h List.mem_cons_self
    have mo8 : Mo (q :: S) A2 H2 S A2 H2 := ⟨⟨[], by simp, by simp⟩, fun b hb => .inl (List.mem_cons_of_mem _ hb), fun _ _ _ _ h => h⟩
    refine k _ _ A2 H2 Δ2 (e1.trans e2) ⟨c2.len, c2.nd, fun a ha hb => c2.dj a ha (List.mem_cons_of_mem _ hb), fun a ha => c2.as a (List.mem_cons_of_mem _ ha), fun n a o h1 h2 => (c2.at_ n a o h1 h2).mono mo8 fun _ h => h⟩
      (.lst hqv hq2 (c1.aside hq) (RepL.mono mo8 _ hacc)) hp
section
variable {C : CI} {X : Cx}
theorem tsz_nil : TsZ C X [] zYes := ⟨_, pts_nil, fun S A σ H Γ Δ P Q hs hc hz k => k true A H Δ (Ext.refl _ _) hc hz⟩
theorem tsz_one {c : Expr} {z : ZT} (h : TZ C X c z) : TsZ C X [c] z := by
  obtain ⟨t, h1, h2⟩ := h.ex
  exact ⟨t, pts_one h1, h2⟩
/-- what stands in a comprehension's block, whatever the block's own frame is -/
structure BlkZ (C : CI) (X : Cx) (scope : Scope) (tg : Expr) (ifs : List Expr) (elt : Expr) (g : TG) (zg : ZG) (zt : ZT) (ze : ZE) : Prop where
  ex : ∃ tt te, (∀ (s : Shared) (H : Hp) (Ca : Addr) (cl : List (Str × Addr)) (fp : List Addr), PG (X.blk s H scope (compEnvC scope cl Ca X.env) fp) tg g ∧ PTs (X.blk s H scope (compEnvC scope cl Ca X.env) fp) ifs tt ∧ PE (X.blk s H scope (compEnvC scope cl Ca X.env) fp) elt te) ∧
    RefG X.K C g zg ∧ RefT X.K C tt zt ∧ RefE X.K C te ze
theorem ez_lc {elt tg iter : Expr} {ifs : List Expr} {scope : Scope} {own : List (Str × Nat)} {pos : Pos} {zi : ZI} {g : TG} {zg : ZG} {zt : ZT} {ze : ZE} (hN : X.N.Nodup) (hi : IZ C X tg iter zi) (ok : BlkOk X.N X.env.scope scope own) (ho : Own g (own.map (·.2))) (hb : BlkZ C X scope tg ifs elt g zg zt ze)
    (hc : X.calm = true := by rfl) (hs : ∀ x, foldedSetIterable iter X.env x = pure x := by intro _; rfl) : EZ C X (.ListComp elt [⟨tg, iter, ifs, 0⟩] scope pos) (zLc zi zg zt ze (own.map (·.2))) := by
  obtain ⟨wi, i1, i2⟩ := hi.ex
  obtain ⟨tt, te, b1, b2, b3, b4⟩ := hb.ex
  exact ⟨_, pe_lc hc hN i1 ok (fun s H Ca cl fp => (b1 s H Ca cl fp).1) (fun s H Ca cl fp => (b1 s H Ca cl fp).2.1) (fun s H Ca cl fp => (b1 s H Ca cl fp).2.2) hs, ref_lc i2 b2 ho b3 b4⟩
theorem sz_setLc {i : Nat} {y : Str} {py : Pos} {elt tg iter : Expr} {ifs : List Expr} {scope : Scope} {own : List (Str × Nat)} {pos spos : Pos} {zi : ZI} {g : TG} {zg : ZG} {zt : ZT} {ze : ZE} (hN : X.N.Nodup) (hy : X.N[i]? = some y) (hyl : X.env.scope.names.lookup y = some .local)
    (hsw : swapsWith (.ListComp elt [⟨tg, iter, ifs, 0⟩] scope pos) (some (.Name y py)) spos.line X.env = pure true) (hi : IZ C X tg iter zi) (ok : BlkOk X.N X.env.scope scope own) (ho : Own g (own.map (·.2))) (hb : BlkZ C X scope tg ifs elt g zg zt ze)
    (hc : X.calm = true := by rfl) (hs : ∀ x, foldedSetIterable iter X.env x = pure x := by intro _; rfl) : SZ C X (.Assign [.Name y py] (.ListComp elt [⟨tg, iter, ifs, 0⟩] scope pos) spos) (zAsg (zLc zi zg zt ze (own.map (·.2))) (zgName i)) := by
  obtain ⟨wi, i1, i2⟩ := hi.ex
  obtain ⟨tt, te, b1, b2, b3, b4⟩ := hb.ex
  exact ⟨_, ps_setLc hc hN hy hyl hsw i1 ok (fun s H Ca cl fp => (b1 s H Ca cl fp).1) (fun s H Ca cl fp => (b1 s H Ca cl fp).2.1) (fun s H Ca cl fp => (b1 s H Ca cl fp).2.2) hs, ref_asg (ref_lc i2 b2 ho b3 b4) (gz_name (C := C) (pos := py) hN hy (.inl hyl) (.inr hyl)).ref⟩

/-! ### calls of defs -/
/-- a def's promise over data: W says of the arguments, the store and a wish what must hold ahead -/
def SpZ (K : PySem.W.Frag) (C : CI) (W : ZRC) : Sp := fun vs H Q _ => ∃ S A Δ ds P, RepL K C S A H vs ds ∧ Cells K C S A H Δ ∧ W ds Δ P ∧ ∀ v d A' H' Δ', Ext A H A' H' → Cells K C S A' H' Δ' → Rep K C S A' H' v d → P d Δ' → Q v H'
def zCall (W : ZRC) (dds : List D) (za : ZA) : ZE := fun Γ Δ P => za Γ Δ fun ds Δ1 => W (ds ++ dds) Δ1 P
variable {e : Expr} {es : List Expr} {za : ZA} {pos p : Pos} {x : Str} {k : Nat} {f : Addr} {fd : FuncData} {ps : List Str} {W : ZRC} {dvs : List V} {dds : List D} {ds : List Value}
theorem ref_call {K : PySem.W.Frag} {ta : TA} {E : XK} (ha : RefA K C ta za) (hdd : ∀ S A H, RepL K C S A H dvs dds) : RefE K C (tCall (SpZ K C W) dvs E ta) (zCall W dds za) := fun S A σ H Γ Δ P Q hs hc hz k =>
  ha S A σ H Γ Δ _ _ hs hc hz fun vs ds A1 H1 Δ1 e1 c1 r1 p => ⟨S, A1, Δ1, ds ++ dds, P, r1.append (hdd _ _ _), c1, p, fun v d A' H' Δ' e2 c2 r2 p2 => k v d A' H' Δ' (e1.trans e2) c2 r2 p2⟩
theorem ez_call (F : FnOk X.prog X.w X.K X.mg X.base CX0 k f fd ps (SpZ X.K C W)) (hr : Room k X.A) (hm : X.mg x = some (.ref f)) (hk : PySem.W.keepIn X.K (.ref f) = true) (hb : Binds X.K fd ps ds) (hd : Vals dvs ds) (hdd : ∀ S A H, RepL X.K C S A H dvs dds)
    (ha : AZ C X (e :: es) za) (hg : Gl X x := by rfl) (hdb : (x == ("__debug__" : Str)) = false := by decide) (he : starEach (e :: es) X.env = (false, eval e X.env) :: starEach es X.env := by rfl) (hpl : (backTo pos (starEach es X.env)).any (·.1) = false := by rfl) :
    EZ C X (.Call (.Name x p) (e :: es) [] pos) (zCall W dds za) := by
  obtain ⟨t, a1, a2⟩ := ha.ex
  exact ⟨_, pe_call F hr hg hm hk hb hd pass0 a1 hdb he hpl, ref_call a2 hdd⟩
/-- without defaults -/
theorem ez_calln (F : FnOk X.prog X.w X.K X.mg X.base CX0 k f fd ps (SpZ X.K C W)) (hr : Room k X.A) (hm : X.mg x = some (.ref f)) (hk : PySem.W.keepIn X.K (.ref f) = true) (hb : Binds X.K fd ps [])
    (ha : AZ C X (e :: es) za) (hg : Gl X x := by rfl) (hdb : (x == ("__debug__" : Str)) = false := by decide) (he : starEach (e :: es) X.env = (false, eval e X.env) :: starEach es X.env := by rfl) (hpl : (backTo pos (starEach es X.env)).any (·.1) = false := by rfl) :
    EZ C X (.Call (.Name x p) (e :: es) [] pos) (zCall W [] za) := ez_call F hr hm hk hb .nil (fun _ _ _ => .nil) ha hg hdb he hpl
/-- a def's body keeps its promise -/
def startZ (N : List Str) (ds : List D) : Env := ds.map some ++ List.replicate (N.length - ds.length) none
theorem slots_start {K : PySem.W.Frag} {S A : List Addr} {H : Hp} {N : List Str} {vs : List V} {ds : List D} (r : RepL K C S A H vs ds) : Slots K C S A H (L2.start N vs) (startZ N ds) := by
  refine ⟨?_, fun i d q => ?_⟩
  · unfold L2.start startZ
    rw [List.length_append, List.length_append, List.length_map, List.length_map, List.length_replicate, List.length_replicate, r.length]
  · unfold startZ at q
    unfold L2.start
    by_cases hi : i < ds.length
    · rw [List.getElem?_append_left (by rw [List.length_map]; exact hi), List.getElem?_map] at q
      cases e : ds[i]? with
      | none => rw [e] at q; cases q
      | some d' =>
        rw [e] at q
        cases q
        obtain ⟨v, h1, h2⟩ := r.get e
        exact ⟨v, by rw [List.getElem?_append_left (by rw [List.length_map, r.length]; exact hi), List.getElem?_map, h1] <;> rfl, h2⟩
    · rw [List.getElem?_append_right (by rw [List.length_map]; omega)] at q
      have := List.mem_of_getElem? q
      simp at this
theorem fnz_ok {P : Program} {w : World} {K : PySem.W.Frag} {mg : Str → Option Value} {base : Heap} {y qual : Str} {st : Stmt} {N : List Str} (F : Fun K y qual st f fd) (Sc : FnScope N ps (defScope st)) (len : ∀ ds Δ P, W ds Δ P → ds.length = ps.length)
    (body : ∀ (cdv : Value) (A : Around) (outer : List PySem.Env) (s : Shared) (H : Hp) (E : XK), Room k (A.deeper (PyProof.Rows.envOfC qual (defScope st) s.heap.objs.size f cdv)) →
      ∃ z : ZS, SZs C (cxOf CX0 P w K mg base N qual (defScope st) f cdv A outer s H E).nox (defBody st) z ∧ ∀ ds Δ P, W ds Δ P → z { nx := fun _ Δ' => P .non Δ', rt := P } (startZ N ds) Δ) : FnOk P w K mg base CX0 (k + 1) f fd ps (SpZ K C W) := by
  refine F.ok Sc (fun vs H Q E h => ?_) (fun cdv A outer s H vs Q E hr h => ?_)
  · obtain ⟨S, A, Δ, ds, P, r, _, hw, _⟩ := h
    rw [r.length]
    exact len ds Δ P hw
  · obtain ⟨S, A', Δ, ds, P', r, hc, hw, kk⟩ := h
    obtain ⟨z, hz, hzz⟩ := body cdv A outer s H E hr
    obtain ⟨ts, h1, h2⟩ := hz.ex
    refine ⟨ts, h1, h2 S A' _ H (startZ N ds) Δ { nx := fun _ Δ' => P' .non Δ', rt := P' } _ (slots_start r) hc (hzz ds Δ P' hw) ⟨?_, ?_, ?_, ?_⟩⟩
    · exact fun σ' A2 H2 Γ2 Δ2 e2 s2 c2 q => kk .non .non A2 H2 Δ2 e2 c2 .non q
    · exact fun σ' A2 H2 Γ2 Δ2 e2 s2 c2 q => q.elim
    · exact fun σ' A2 H2 Γ2 Δ2 e2 s2 c2 q => q.elim
    · exact fun v d A2 H2 Δ2 e2 c2 r2 q => kk v d A2 H2 Δ2 e2 c2 r2 q

/-! ### built-ins -/
structure CallZ (C : CI) (X : Cx) (fv : Value) (z : ZRC) : Prop where
  ex : ∃ r, CallR X fv r ∧ RefC X.K C r z
def zCB (z : ZRC) (za : ZA) : ZE := fun Γ Δ P => za Γ Δ fun ds Δ1 => z ds Δ1 P
theorem ref_cb {K : PySem.W.Frag} {r : List V → Hp → VK → Prop} {z : ZRC} {ta : TA} (hr : RefC K C r z) (ha : RefA K C ta za) : RefE K C (tCB r ta) (zCB z za) := fun S A σ H Γ Δ P Q hs hc hz k =>
  ha S A σ H Γ Δ _ _ hs hc hz fun vs ds A1 H1 Δ1 e1 c1 r1 p => hr S A1 H1 Δ1 vs ds P Q c1 r1 p fun v d A' H' Δ' e2 c2 r2 p2 => k v d A' H' Δ' (e1.trans e2) c2 r2 p2
theorem ez_callB {id : String} {z : ZRC} (hc : CallZ C X (.builtin id) z) (hm : X.mg x = none) (hv : bootBuiltins x = some (.builtin id)) (ha : AZ C X (e :: es) za) (hg : Gl X x := by rfl) (hn : x ≠ "__name__" := by decide) (hdb : (x == ("__debug__" : Str)) = false := by decide)
    (he : starEach (e :: es) X.env = (false, eval e X.env) :: starEach es X.env := by rfl) (hpl : (backTo pos (starEach es X.env)).any (·.1) = false := by rfl) : EZ C X (.Call (.Name x p) (e :: es) [] pos) (zCB z za) := by
  obtain ⟨r, c1, c2⟩ := hc.ex
  obtain ⟨t, a1, a2⟩ := ha.ex
  exact ⟨_, pe_callB c1 hg hm hv a1 hn hdb he hpl, ref_cb c2 a2⟩
theorem ez_callTy {T : String} {z : ZRC} (hc : CallZ C X (.type T) z) (hm : X.mg x = none) (hv : bootBuiltins x = some (.type T)) (ha : AZ C X (e :: es) za) (hg : Gl X x := by rfl) (hn : x ≠ "__name__" := by decide) (hdb : (x == ("__debug__" : Str)) = false := by decide)
    (he : starEach (e :: es) X.env = (false, eval e X.env) :: starEach es X.env := by rfl) (hpl : (backTo pos (starEach es X.env)).any (·.1) = false := by rfl) : EZ C X (.Call (.Name x p) (e :: es) [] pos) (zCB z za) := by
  obtain ⟨r, c1, c2⟩ := hc.ex
  obtain ⟨t, a1, a2⟩ := ha.ex
  exact ⟨_, pe_callTy c1 hg hm hv a1 hn hdb he hpl, ref_cb c2 a2⟩
/-- a module's name for a built-in (gcd) -/
theorem ez_callMod {id : String} {z : ZRC} (hc : CallZ C X (.builtin id) z) (hm : X.mg x = some (.builtin id)) (ha : AZ C X (e :: es) za) (hg : Gl X x := by rfl) (hdb : (x == ("__debug__" : Str)) = false := by decide)
    (he : starEach (e :: es) X.env = (false, eval e X.env) :: starEach es X.env := by rfl) (hpl : (backTo pos (starEach es X.env)).any (·.1) = false := by rfl) : EZ C X (.Call (.Name x p) (e :: es) [] pos) (zCB z za) := by
  obtain ⟨r, c1, c2⟩ := hc.ex
  obtain ⟨t, a1, a2⟩ := ha.ex
  exact ⟨_, pe_callBfun c1 hg hm a1 hdb he hpl, ref_cb c2 a2⟩
def zLen : ZRC := fun ds Δ P => ∃ d es, ds = [d] ∧ seqD Δ d = some es ∧ P (.int (es.length : Int)) Δ
theorem one_rep {K : PySem.W.Frag} {S A : List Addr} {H : Hp} {vs : List V} {d : D} (r : RepL K C S A H vs [d]) : ∃ v, vs = [v] ∧ Rep K C S A H v d := by
  cases r with
  | cons h r => cases r; exact ⟨_, rfl, h⟩
theorem two_rep {K : PySem.W.Frag} {S A : List Addr} {H : Hp} {vs : List V} {d d' : D} (r : RepL K C S A H vs [d, d']) : ∃ v v', vs = [v, v'] ∧ Rep K C S A H v d ∧ Rep K C S A H v' d' := by
  cases r with
  | cons h r => obtain ⟨v', rfl, h'⟩ := one_rep r; exact ⟨_, v', rfl, h, h'⟩
theorem cz_len : CallZ C X (.builtin "len") zLen := ⟨_, call_len_seq, fun S A H Δ xs ds P Q hc r hz k => by
  obtain ⟨d, es, rfl, hd, q⟩ := hz
  obtain ⟨v, rfl, rv⟩ := one_rep r
  obtain ⟨pa, ys, rfl, hq, rr⟩ := Rep.seq hc rv hd
  refine ⟨pa, ys, rfl, hq, k _ _ A H Δ (Ext.refl _ _) hc ?_ q⟩
  rw [rr.length]
  exact .int _⟩
def zSum : ZRC := fun ds Δ P => ∃ (d : D) (ns : List Int), ds = [d] ∧ lstD Δ d = some (ns.map D.int) ∧ P (.int ns.sum) Δ
theorem repL_int {K : PySem.W.Frag} {S A : List Addr} {H : Hp} : ∀ {ns : List Int} {vs : List V}, RepL K C S A H vs (ns.map D.int) → vs = ns.map V.int
  | [], _, r => by cases r; rfl
  | n :: ns, _, r => by
    rw [List.map_cons] at r
    cases r with
    | cons h r => cases h; rw [repL_int r] <;> rfl
theorem repL_bl {K : PySem.W.Frag} {S A : List Addr} {H : Hp} : ∀ {ns : List Bool} {vs : List V}, RepL K C S A H vs (ns.map D.bl) → vs = ns.map V.bl
  | [], _, r => by cases r; rfl
  | n :: ns, _, r => by
    rw [List.map_cons] at r
    cases r with
    | cons h r => cases h; rw [repL_bl r] <;> rfl
theorem cz_sum (hc : X.calm = true := by rfl) : CallZ C X (.builtin "sum") zSum := ⟨_, cr_sum hc, fun S A H Δ xs ds P Q hc r hz k => by
  obtain ⟨d, ns, rfl, hd, q⟩ := hz
  obtain ⟨v, rfl, rv⟩ := one_rep r
  obtain ⟨pa, ys, rfl, hq, rr⟩ := Rep.lst_ hc rv hd
  obtain rfl := repL_int rr
  exact ⟨pa, ns, rfl, SqL.of hq, k _ _ A H Δ (Ext.refl _ _) hc (.int _) q⟩⟩
def zAny : ZRC := fun ds Δ P => ∃ (d : D) (bs : List Bool), ds = [d] ∧ lstD Δ d = some (bs.map D.bl) ∧ P (.bl (bs.any id)) Δ
theorem cz_any (hc : X.calm = true := by rfl) : CallZ C X (.builtin "any") zAny := ⟨_, cr_any hc, fun S A H Δ xs ds P Q hc r hz k => by
  obtain ⟨d, ns, rfl, hd, q⟩ := hz
  obtain ⟨v, rfl, rv⟩ := one_rep r
  obtain ⟨pa, ys, rfl, hq, rr⟩ := Rep.lst_ hc rv hd
  obtain rfl := repL_bl rr
  exact ⟨pa, ns, rfl, SqL.of hq, k _ _ A H Δ (Ext.refl _ _) hc (.bl _) q⟩⟩
def zAll : ZRC := fun ds Δ P => ∃ (d : D) (bs : List Bool), ds = [d] ∧ lstD Δ d = some (bs.map D.bl) ∧ P (.bl (bs.all id)) Δ
theorem cz_all (hc : X.calm = true := by rfl) : CallZ C X (.builtin "all") zAll := ⟨_, cr_all hc, fun S A H Δ xs ds P Q hc r hz k => by
  obtain ⟨d, ns, rfl, hd, q⟩ := hz
  obtain ⟨v, rfl, rv⟩ := one_rep r
  obtain ⟨pa, ys, rfl, hq, rr⟩ := Rep.lst_ hc rv hd
  obtain rfl := repL_bl rr
  exact ⟨pa, ns, rfl, SqL.of hq, k _ _ A H Δ (Ext.refl _ _) hc (.bl _) q⟩⟩
def zAbs : ZRC := fun ds Δ P => ∃ i, ds = [.int i] ∧ P (.int (if i < 0 then -i else i)) Δ
theorem cz_abs : CallZ C X (.builtin "abs") zAbs := ⟨_, call_abs, fun S A H Δ xs ds P Q hc r hz k => by
  obtain ⟨i, rfl, q⟩ := hz
  obtain ⟨v, rfl, rv⟩ := one_rep r
  cases rv
  exact ⟨i, rfl, k _ _ A H Δ (Ext.refl _ _) hc (.int _) q⟩⟩
def zMax2 : ZRC := fun ds Δ P => ∃ i j, ds = [.int i, .int j] ∧ P (.int (if j > i then j else i)) Δ
theorem cz_max2 (hc : X.calm = true := by rfl) : CallZ C X (.builtin "max") zMax2 := ⟨_, call_max2 hc, fun S A H Δ xs ds P Q hc r hz k => by
  obtain ⟨i, j, rfl, q⟩ := hz
  obtain ⟨v, v', rfl, rv, rv'⟩ := two_rep r
  cases rv
  cases rv'
  exact ⟨i, j, rfl, k _ _ A H Δ (Ext.refl _ _) hc (.int _) q⟩⟩
def zMin2 : ZRC := fun ds Δ P => ∃ i j, ds = [.int i, .int j] ∧ P (.int (if j < i then j else i)) Δ
theorem cz_min2 (hc : X.calm = true := by rfl) : CallZ C X (.builtin "min") zMin2 := ⟨_, call_min2 hc, fun S A H Δ xs ds P Q hc r hz k => by
  obtain ⟨i, j, rfl, q⟩ := hz
  obtain ⟨v, v', rfl, rv, rv'⟩ := two_rep r
  cases rv
  cases rv'
  exact ⟨i, j, rfl, k _ _ A H Δ (Ext.refl _ _) hc (.int _) q⟩⟩
def zInt : ZRC := fun ds Δ P => (∃ i, ds = [.int i] ∧ P (.int i) Δ) ∨ ∃ b, ds = [.bl b] ∧ P (.int (if b then 1 else 0)) Δ
theorem cz_int : CallZ C X (.type "int") zInt := ⟨_, call_int1, fun S A H Δ xs ds P Q hc r hz k => by
  rcases hz with ⟨i, rfl, q⟩ | ⟨b, rfl, q⟩
  · obtain ⟨v, rfl, rv⟩ := one_rep r
    cases rv
    exact .inl ⟨i, rfl, k _ _ A H Δ (Ext.refl _ _) hc (.int _) q⟩
  · obtain ⟨v, rfl, rv⟩ := one_rep r
    cases rv
    exact .inr ⟨b, rfl, k _ _ A H Δ (Ext.refl _ _) hc (.int _) q⟩⟩
/-- list(xs): a new list; as a cell -/
def zList : ZRC := fun ds Δ P => ∃ d es, ds = [d] ∧ seqD Δ d = some es ∧ P (.lst es) Δ
def zListC : ZRC := fun ds Δ P => ∃ d es, ds = [d] ∧ seqD Δ d = some es ∧ P (.cell Δ.length) (Δ ++ [.lst es])
theorem cz_list : CallZ C X (.type "list") zList := ⟨_, call_list_of, fun S A H Δ xs ds P Q hc r hz k => by
  obtain ⟨d, es, rfl, hd, q⟩ := hz
  obtain ⟨v, rfl, rv⟩ := one_rep r
  obtain ⟨pa, ys, rfl, hq, rr⟩ := Rep.seq hc rv hd
  refine ⟨pa, ys, rfl, hq, fun l hl => ?_⟩
  exact k _ _ A _ Δ (Ext.new hl) (hc.new hl) (.lst upd_same (hc.fresh hl) (hc.aside hl) (rr.ext (Ext.new hl))) q⟩
theorem cz_listC : CallZ C X (.type "list") zListC := ⟨_, call_list_of, fun S A H Δ xs ds P Q hc r hz k => by
  obtain ⟨d, es, rfl, hd, q⟩ := hz
  obtain ⟨v, rfl, rv⟩ := one_rep r
  obtain ⟨pa, ys, rfl, hq, rr⟩ := Rep.seq hc rv hd
  refine ⟨pa, ys, rfl, hq, fun l hl => ?_⟩
  refine k _ _ (A ++ [l]) _ _ (Ext.newCell hl) (hc.newCell hl rr) (.cell ?_) q
  rw [← hc.len, List.getElem?_append_right (Nat.le_refl _), Nat.sub_self]
  rfl⟩
def zGcd : ZRC := fun ds Δ P => ∃ i j : Int, ds = [.int i, .int j] ∧ P (.int (Int.gcd i j : Nat)) Δ
theorem cz_gcd : CallZ C X (.builtin "math.gcd") zGcd := ⟨_, cr_gcd, fun S A H Δ xs ds P Q hc r hz k => by
  obtain ⟨i, j, rfl, q⟩ := hz
  obtain ⟨v, v', rfl, rv, rv'⟩ := two_rep r
  cases rv
  cases rv'
  exact ⟨i, j, rfl, k _ _ A H Δ (Ext.refl _ _) hc (.int _) q⟩⟩

/-! ### xs.append(e) -/
def zAppend (zo : ZE) (za : ZA) : ZE := fun Γ Δ P => zo Γ Δ fun o Δ1 => (∃ n ds, o = .cell n ∧ Δ1[n]? = some (.lst ds)) ∧ za Γ Δ1 fun as Δ2 => ∃ n ds y, o = .cell n ∧ Δ2[n]? = some (.lst ds) ∧ as = [y] ∧ ds.length < 100000 ∧ P .non (Δ2.set n (.lst (ds ++ [y])))
variable {o : Expr} {zo : ZE} {apos cpos : Pos}
theorem ez_append (ho : EZ C X o zo) (ha : AZ C X (e :: es) za)
    (hbase : attributeBase o "append" X.env (eval o X.env) = eval o X.env := by rfl)
    (hfew : ((backTo cpos (starEach (e :: es) X.env)).all (fun x => !x.1) && (backToKw cpos (keywordEach [] X.env)).all (fun x => x.1.isSome)
      && decide ((e :: es).length + ([] : List Keyword).length + (if ([] : List Keyword).isEmpty then 0 else 1) < 30)) = true := by rfl)
    (hline : (apos.endLine == cpos.line) = true := by rfl) (hs : starEach (e :: es) X.env = (false, eval e X.env) :: starEach es X.env := by rfl) (hplain : (backTo cpos (starEach es X.env)).any (·.1) = false := by rfl) :
    EZ C X (.Call (.Attribute o "append" apos) (e :: es) [] cpos) (zAppend zo za) := by
  obtain ⟨t, o1, o2⟩ := ho.ex
  obtain ⟨u, a1, a2⟩ := ha.ex
  refine ⟨_, pe_bm PySem.F.plainAttrs_list PySem.F.slot_list_append PySem.F.type_list_append mt_append o1 a1 hbase hfew hline hs hplain, fun S A σ H Γ Δ P Q hs hc hz k => o2 S A σ H Γ Δ _ _ hs hc hz fun v d A1 H1 Δ1 e1 c1 r1 p => ?_⟩
  obtain ⟨⟨n, ds, rfl, hd⟩, p⟩ := p
  cases r1 with
  | cell g =>
    obtain ⟨xs, g1, g2⟩ := c1.at_ n _ _ g hd
    refine ⟨.inl ⟨rfl, _, SqL.of g1⟩, a2 S A1 σ H1 Γ Δ1 _ _ (hs.ext e1) c1 p fun vs as A2 H2 Δ2 e2 c2 r2 p2 => ?_⟩
    obtain ⟨n', ds', y, hn, hd', rfl, hl, p2⟩ := p2
    cases hn
    obtain ⟨v, rfl, rv⟩ := one_rep r2
    rename_i pa
    have g' : A2[n]? = some pa := by
      obtain ⟨B, hB, _⟩ := e2.pre
      rw [hB, List.getElem?_append_left (List.getElem?_eq_some_iff.mp g).1]
      exact g
    obtain ⟨xs', g3, g4⟩ := c2.at_ n _ _ g' hd'
    have q := c2.put g' (g4.append (.cons rv .nil))
    exact ⟨_, xs', v, rfl, rfl, g3, lt_line (by rw [g4.length]; exact hl), k _ _ A2 _ _ ((e1.trans e2).trans q.2) q.1 .non p2⟩

/-! ### zip, enumerate -/
def ziZip (za : ZA) : ZI := fun Γ Δ P => za Γ Δ fun ds Δ1 => ∃ xs ys, ds = [.lst xs, .lst ys] ∧ P ((xs.zip ys).map fun q => .tup [q.1, q.2]) Δ1
theorem iz_zip {e e2 : Expr} {tpos : Pos} {elts : List Expr} {kk : Nat} (ha : AZ C X [e, e2] za) (hm : X.mg "zip" = none) (hg : Gl X "zip" := by rfl)
    (hs : starEach [e, e2] X.env = (false, eval e X.env) :: starEach [e2] X.env := by rfl) (hpl : (backTo pos (starEach [e2] X.env)).any (·.1) = false := by rfl) : IZ C X (.Tuple elts kk tpos) (.Call (.Name "zip" p) [e, e2] [] pos) (ziZip za) := by
  obtain ⟨t, a1, a2⟩ := ha.ex
  refine ⟨_, pi_zip hg hm a1 hs hpl, fun S A σ H Γ Δ P R hs hc hz k => a2 S A σ H Γ Δ _ _ hs hc hz fun vs ds A1 H1 Δ1 e1 c1 r1 q => ?_⟩
  obtain ⟨xs, ys, rfl, q⟩ := q
  obtain ⟨v, v', rfl, rv, rv'⟩ := two_rep r1
  cases rv with
  | lst g1 g2 g3 g4 =>
    cases rv' with
    | lst h1 h2 h3 h4 =>
      rename_i a us b ws
      refine ⟨a, b, us, ws, rfl, SqL.of g1, SqL.of h1, ?_⟩
      refine k (Itz X.K a b) (min us.length ws.length) _ _ _ A1 H1 Δ1 e1 c1 q (by rw [List.length_map, List.length_zip, g4.length, h4.length]) (walk_zip rfl) (fun S2 A2 H2 m => ⟨SqL.of (m.keep _ _ g2 g3 g1), SqL.of (m.keep _ _ h2 h3 h1)⟩) fun S2 A2 H2 Δ2 i x H3 hi m c2 y => ?_
      obtain ⟨T, y1, y2, rfl, nT, rfl, f1, f2⟩ := y
      obtain ⟨d1, q1, q2⟩ := (RepL.mono m _ g4).getV f1
      obtain ⟨d2, q3, q4⟩ := (RepL.mono m _ h4).getV f2
      refine ⟨.tup [d1, d2], ?_, fun b o h => by rw [upd_ne (ne_of_none h nT)]; exact h, .tup upd_same (c2.fresh nT) (c2.aside nT) (.cons (q2.ext (Ext.new nT)) (.cons (q4.ext (Ext.new nT)) .nil))⟩
      rw [List.getElem?_map, List.getElem?_zip_eq_some.mpr (show xs[i]? = some (d1, d2).1 ∧ ys[i]? = some (d1, d2).2 from ⟨q1, q3⟩)]
      rfl
def enumD (xs : List D) : List D := xs.zipIdx.map fun q => .tup [.int (q.2 : Nat), q.1]
def ziEnum (za : ZA) : ZI := fun Γ Δ P => za Γ Δ fun ds Δ1 => ∃ xs, ds = [.lst xs] ∧ P (enumD xs) Δ1
theorem iz_enum {e : Expr} {tpos : Pos} {elts : List Expr} {kk : Nat} (ha : AZ C X [e] za) (hm : X.mg "enumerate" = none) (hg : Gl X "enumerate" := by rfl) (hs : starEach [e] X.env = [(false, eval e X.env)] := by rfl) : IZ C X (.Tuple elts kk tpos) (.Call (.Name "enumerate" p) [e] [] pos) (ziEnum za) := by
  obtain ⟨t, a1, a2⟩ := ha.ex
  refine ⟨_, pi_enum hg hm a1 hs, fun S A σ H Γ Δ P R hs hc hz k => a2 S A σ H Γ Δ _ _ hs hc hz fun vs ds A1 H1 Δ1 e1 c1 r1 q => ?_⟩
  obtain ⟨xs, rfl, q⟩ := q
  obtain ⟨v, rfl, rv⟩ := one_rep r1
  cases rv with
  | lst g1 g2 g3 g4 =>
    rename_i a us
    refine ⟨a, us, rfl, SqL.of g1, ?_⟩
    refine k (Ite X.K a) us.length _ _ _ A1 H1 Δ1 e1 c1 q (by unfold enumD; rw [List.length_map, List.length_zipIdx, g4.length]) walk_enum (fun S2 A2 H2 m => SqL.of (m.keep _ _ g2 g3 g1)) fun S2 A2 H2 Δ2 i x H3 hi m c2 y => ?_
    obtain ⟨T, y1, y2, rfl, nT, rfl, f1, f2⟩ := y
    cases f1
    obtain ⟨d2, q3, q4⟩ := (RepL.mono m _ g4).getV f2
    refine ⟨.tup [.int (i : Nat), d2], ?_, fun b o h => by rw [upd_ne (ne_of_none h nT)]; exact h, .tup upd_same (c2.fresh nT) (c2.aside nT) (.cons (.int _) (.cons (q4.ext (Ext.new nT)) .nil))⟩
    unfold enumD
    rw [List.getElem?_map, List.getElem?_zipIdx, q3]
    simp
end
end Z

/-! Z5: own classes over data: attributes, properties, methods, calls of instances, making, ==; isinstance. -/
namespace Z
open PySem L2

/-! ### attributes -/
def fldD (C : CI) (Δ : Store) (c : Nat) (f : Str) : D → Option D
  | .ins c' ds => if c' = c then ((C.nms c).zip ds).lookup f else none
  | .cell n => match Δ[n]? with
    | some (.ins c' fs) => if c' = c then fs.lookup f else none
    | _ => none
  | _ => none
/-- an instance of the class c -/
def insD (Δ : Store) (c : Nat) (x : D) : Prop := (∃ ds, x = .ins c ds) ∨ ∃ n fs, x = .cell n ∧ Δ[n]? = some (.ins c fs)
section
variable {K : PySem.W.Frag} {C : CI} {S A : List Addr} {H : Hp} {Δ : Store}
theorem zip_lookup {f : Str} {d : D} : ∀ {ns : List Str} {xs : List V} {ds : List D}, RepL K C S A H xs ds → (ns.zip ds).lookup f = some d → ∃ v, (ns.zip xs).lookup f = some v ∧ Rep K C S A H v d
  | [], _, _, _, h => by simp at h
  | _ :: _, _, _, .nil, h => by simp at h
  | n :: ns, _, _, .cons h1 r, h => by
    rw [List.zip_cons_cons, List.lookup_cons] at h ⊢
    cases e : f == n with
    | true =>
      rw [e] at h
      cases h
      exact ⟨_, rfl, h1⟩
    | false =>
      rw [e] at h
      exact zip_lookup r h
theorem prs_lookup {f : Str} {d : D} : ∀ {xs : List (Str × V)} {fs : List (Str × D)}, xs.map (·.1) = fs.map (·.1) → RepL K C S A H (xs.map (·.2)) (fs.map (·.2)) → fs.lookup f = some d → ∃ v, xs.lookup f = some v ∧ Rep K C S A H v d
  | [], [], _, _, h => by simp at h
  | [], _ :: _, e, _, _ => by simp at e
  | _ :: _, [], e, _, _ => by simp at e
  | (n, x) :: xs, (m, y) :: fs, e, r, h => by
    rw [List.map_cons, List.map_cons] at e r
    obtain ⟨e1, e2⟩ := List.cons.inj e
    have e1 : n = m := e1
    subst e1
    cases r with
    | cons h1 r =>
      rw [List.lookup_cons] at h ⊢
      cases q : f == n with
      | true =>
        simp only [q] at h ⊢
        cases h
        exact ⟨_, rfl, h1⟩
      | false =>
        simp only [q] at h ⊢
        exact prs_lookup e2 r h
theorem Rep.fld {x : V} {d0 d : D} {c : Nat} {f : Str} (hc : Cells K C S A H Δ) (r : Rep K C S A H x d0) (h : fldD C Δ c f d0 = some d) :
    ∃ a dx fs v, x = .ref a ∧ H a = some (.ins (C.adr c) dx fs) ∧ fs.lookup f = some v ∧ Rep K C S A H v d := by
  cases r with
  | ins h1 h2 h3 h4 h5 =>
    rename_i a dx c' xs ds
    have h : (if c' = c then ((C.nms c).zip ds).lookup f else none) = some d := h
    by_cases e : c' = c
    · subst e
      rw [if_pos rfl] at h
      obtain ⟨v, g1, g2⟩ := zip_lookup h5 h
      exact ⟨_, _, _, v, rfl, h1, g1, g2⟩
    · rw [if_neg e] at h
      cases h
  | cell e =>
    rename_i a n
    unfold fldD at h
    cases q : Δ[n]? with
    | none => simp only [q] at h; cases h
    | some o =>
      cases o with
      | lst _ => simp only [q] at h; cases h
      | dct _ _ => simp only [q] at h; cases h
      | ins c' fs =>
        simp only [q] at h
        by_cases e2 : c' = c
        · subst e2
          rw [if_pos rfl] at h
          obtain ⟨dx, xs, g1, g2, g3⟩ := hc.at_ n a _ e q
          obtain ⟨v, g4, g5⟩ := prs_lookup g2 g3 h
          exact ⟨a, dx, xs, v, rfl, g1, g4, g5⟩
        · rw [if_neg e2] at h
          cases h
  | non => exact nomatch h
  | dct _ _ _ _ _ => exact nomatch h
  | bl b => exact nomatch h
  | int b => exact nomatch h
  | str b => exact nomatch h
  | ty b => exact nomatch h
  | tup _ _ _ _ => exact nomatch h
  | lst _ _ _ _ => exact nomatch h
  | scr _ => exact nomatch h
  | cls _ => exact nomatch h
theorem Rep.inst {x : V} {d0 : D} {c : Nat} (hc : Cells K C S A H Δ) (r : Rep K C S A H x d0) (h : insD Δ c d0) : ∃ a dx fs, x = .ref a ∧ H a = some (.ins (C.adr c) dx fs) := by
  rcases h with ⟨ds, rfl⟩ | ⟨n, fs, rfl, q⟩
  · cases r with
    | ins h1 h2 h3 h4 h5 => exact ⟨_, _, _, rfl, h1⟩
  · cases r with
    | cell e =>
      obtain ⟨dx, xs, g1, _⟩ := hc.at_ n _ _ e q
      exact ⟨_, _, _, rfl, g1⟩
end
def zFld (C : CI) (c : Nat) (f : Str) (z : ZE) : ZE := fun Γ Δ P => z Γ Δ fun x Δ1 => ∃ d, fldD C Δ1 c f x = some d ∧ P d Δ1
/-- a property: its getter's promise -/
def zProp (c : Nat) (W : ZRC) (z : ZE) : ZE := fun Γ Δ P => z Γ Δ fun x Δ1 => insD Δ1 c x ∧ W [x] Δ1 P
section
variable {C : CI} {X : Cx} {e : Expr} {es : List Expr} {ze : ZE} {za : ZA} {pos p : Pos} {x : Str} {k : Nat} {f g : Addr} {fd : FuncData} {ps : List Str} {W : ZRC} {dvs : List V} {dds : List D} {ds : List Value}
theorem ez_fld {c : Nat} {f : Str} (he : EZ C X e ze) (cl : Cls X.K (C.adr c)) (n : NoAttr X.K (C.adr c) f) (hb : attributeBase e f X.env (eval e X.env) = eval e X.env := by rfl) : EZ C X (.Attribute e f pos) (zFld C c f ze) := by
  obtain ⟨t, h1, h2⟩ := he.ex
  refine ⟨_, pe_fld h1 hb, fun S A σ H Γ Δ P Q hs hc hz k => h2 S A σ H Γ Δ _ _ hs hc hz fun v d A1 H1 Δ1 e1 c1 r1 p => ?_⟩
  obtain ⟨d2, hd, p⟩ := p
  obtain ⟨a, dx, fs, w, rfl, g1, g2, g3⟩ := r1.fld c1 hd
  exact ⟨a, _, dx, fs, w, rfl, g1, cl, n, g2, k w d2 A1 H1 Δ1 e1 c1 g3 p⟩
theorem ez_prop {c : Nat} {nm : Str} {pr : Addr} (he : EZ C X e ze) (cl : Cls X.K (C.adr c)) (hp : PropOf X.K (C.adr c) nm pr g) (F : FnOk X.prog X.w X.K X.mg X.base CX0 k g fd ps (SpZ X.K C W)) (hr : Room (k + 1) X.A) (hb : Binds X.K fd ps [])
    (hab : attributeBase e nm X.env (eval e X.env) = eval e X.env := by rfl) : EZ C X (.Attribute e nm pos) (zProp c W ze) := by
  obtain ⟨t, h1, h2⟩ := he.ex
  refine ⟨_, pe_prop h1 cl hp F hr hb .nil (E := E0) (fun _ _ _ _ _ _ _ h => h.elim) hab, fun S A σ H Γ Δ P Q hs hc hz k => h2 S A σ H Γ Δ _ _ hs hc hz fun v d A1 H1 Δ1 e1 c1 r1 p => ?_⟩
  obtain ⟨hi, p⟩ := p
  obtain ⟨a, dx, fs, rfl, g1⟩ := r1.inst c1 hi
  exact ⟨a, dx, fs, rfl, g1, S, A1, Δ1, [d], P, .cons r1 .nil, c1, p, fun v d A' H' Δ' e2 c2 r2 p2 => k v d A' H' Δ' (e1.trans e2) c2 r2 p2⟩
/-- x(e, ..), x an instance of the class c -/
def zCallO (c : Nat) (W : ZRC) (zf : ZE) (za : ZA) : ZE := fun Γ Δ P => zf Γ Δ fun y Δ1 => insD Δ1 c y ∧ za Γ Δ1 fun ds Δ2 => insD Δ2 c y ∧ W (y :: ds) Δ2 P
theorem ez_callO {c : Nat} {fe : Expr} {zf : ZE} (hf : EZ C X fe zf) (co : StX.CallO X.K (C.adr c) g) (F : FnOk X.prog X.w X.K X.mg X.base CX0 k g fd ps (SpZ X.K C W)) (hr : Room k X.A) (hb : Binds X.K fd ps []) (ha : AZ C X (e :: es) za)
    (ht : eval (.Call fe (e :: es) [] pos) X.env = (do callWith pos (← eval fe X.env) [] (backTo pos (starEach (e :: es) X.env)) (backToKw pos (keywordEach [] X.env))) := by rfl)
    (he : starEach (e :: es) X.env = (false, eval e X.env) :: starEach es X.env := by rfl) (hpl : (backTo pos (starEach es X.env)).any (·.1) = false := by rfl) : EZ C X (.Call fe (e :: es) [] pos) (zCallO c W zf za) := by
  obtain ⟨t, f1, f2⟩ := hf.ex
  obtain ⟨u, a1, a2⟩ := ha.ex
  have FR : FnR X.prog X.w X.K X.mg X.base CX0 k g (fun vs H Q E => SpZ X.K C W (vs ++ []) H Q E) := F.raw hb .nil
  refine ⟨_, StX.pe_callO f1 co FR hr (E := E0) pass0 a1 ht he hpl, fun S A σ H Γ Δ P Q hs hc hz k => f2 S A σ H Γ Δ _ _ hs hc hz fun v d A1 H1 Δ1 e1 c1 r1 p => ?_⟩
  obtain ⟨hi0, p⟩ := p
  have hv : ∃ a, v = .ref a := by
    obtain ⟨a, _, _, ea, _⟩ := r1.inst c1 hi0
    exact ⟨a, ea⟩
  obtain ⟨a, rfl⟩ := hv
  refine ⟨a, rfl, a2 S A1 σ H1 Γ Δ1 _ _ (hs.ext e1) c1 p fun vs ds A2 H2 Δ2 e2 c2 r2 p2 => ?_⟩
  obtain ⟨hi, p2⟩ := p2
  have r1' := r1.ext e2
  obtain ⟨a', dx, fs, ea, g1⟩ := r1'.inst c2 hi
  cases ea
  exact ⟨.inr ⟨dx, fs, g1⟩, S, A2, Δ2, d :: ds, P, by rw [List.append_nil]; exact .cons r1' r2, c2, p2, fun v d A' H' Δ' e3 c3 r3 p3 => k v d A' H' Δ' ((e1.trans e2).trans e3) c3 r3 p3⟩
end

/-! ### stores into attributes -/
def putFd (f : Str) (v : D) : List (Str × D) → List (Str × D)
  | [] => [(f, v)]
  | (g, x) :: r => if g = f then (g, v) :: r else (g, x) :: putFd f v r
def zSetF (c : Nat) (f : Str) (zo zv : ZE) : ZS := fun Z Γ Δ => zv Γ Δ fun y Δ1 => zo Γ Δ1 fun o Δ2 => ∃ n fs, o = .cell n ∧ Δ2[n]? = some (.ins c fs) ∧ fs.length < 1000 ∧ Z.nx Γ (Δ2.set n (.ins c (putFd f y fs)))
section
variable {K : PySem.W.Frag} {C : CI} {S A : List Addr} {H : Hp} {Δ : Store}
theorem putF_rep {f : Str} {v : V} {d : D} (r : Rep K C S A H v d) : ∀ {xs : List (Str × V)} {fs : List (Str × D)}, xs.map (·.1) = fs.map (·.1) → RepL K C S A H (xs.map (·.2)) (fs.map (·.2)) →
    (putF f v xs).map (·.1) = (putFd f d fs).map (·.1) ∧ RepL K C S A H ((putF f v xs).map (·.2)) ((putFd f d fs).map (·.2))
  | [], [], _, _ => ⟨rfl, .cons r .nil⟩
  | [], _ :: _, e, _ => by simp at e
  | _ :: _, [], e, _ => by simp at e
  | (n, x) :: xs, (m, y) :: fs, e, rr => by
    rw [List.map_cons, List.map_cons] at e rr
    obtain ⟨e1, e2⟩ := List.cons.inj e
    have e1 : n = m := e1
    subst e1
    cases rr with
    | cons h1 rr =>
      unfold putF putFd
      by_cases q : n = f
      · rw [if_pos q, if_pos q]
        exact ⟨by rw [List.map_cons, List.map_cons, e2], .cons r rr⟩
      · rw [if_neg q, if_neg q]
        obtain ⟨g1, g2⟩ := putF_rep r e2 rr
        exact ⟨by rw [List.map_cons, List.map_cons, g1], .cons h1 g2⟩
end
section
variable {C : CI} {X : Cx} {o value : Expr} {zo zv : ZE} {pos pos' : Pos} {f : Str}
theorem sz_setF {c : Nat} (ho : EZ C X o zo) (hv : EZ C X value zv) (cl : Cls X.K (C.adr c)) (n : NoAttr X.K (C.adr c) f) (hs : swapsWith value (some (.Attribute o f pos')) pos.line X.env = pure false := by rfl) : SZ C X (.Assign [.Attribute o f pos'] value pos) (zSetF c f zo zv) := by
  obtain ⟨t, o1, o2⟩ := ho.ex
  obtain ⟨u, v1, v2⟩ := hv.ex
  refine ⟨_, ps_fld o1 v1 hs, fun S A σ H Γ Δ Z N hs hc hz k => v2 S A σ H Γ Δ _ _ hs hc hz fun y dy A1 H1 Δ1 e1 c1 r1 p => o2 S A1 σ H1 Γ Δ1 _ _ (hs.ext e1) c1 p fun w dw A2 H2 Δ2 e2 c2 r2 p => ?_⟩
  obtain ⟨m, fs, rfl, hm, hl, p⟩ := p
  cases r2 with
  | cell g =>
    rename_i a
    obtain ⟨dx, xs, g1, g2, g3⟩ := c2.at_ m a _ g hm
    have hlen : xs.length = fs.length := by have := congrArg List.length g2; rw [List.length_map, List.length_map] at this; exact this
    have hp : a ∈ A2 := List.mem_of_getElem? g
    have ew : Ext A2 H2 A2 (upd H2 a (.ins (C.adr c) dx (putF f y xs))) := Ext.write hp (by rw [g1]; simp)
    obtain ⟨q1, q2⟩ := putF_rep (f := f) (r1.ext e2) g2 g3
    have q := c2.putO (u := .ins (C.adr c) dx (putF f y xs)) (o := .ins c (putFd f dy fs)) g ⟨dx, _, upd_same, q1, q2.ext ew⟩
    exact ⟨a, C.adr c, dx, xs, rfl, g1, cl, n, by rw [hlen]; exact hl, k.nx σ A2 _ Γ _ ((e1.trans e2).trans q.2) ((hs.ext (e1.trans e2)).ext q.2) q.1 p⟩
end

/-! ### an instance is made and never changed again -/
mutual
def below (m : Nat) : D → Bool
  | .cell n => decide (n < m)
  | .tup ds | .lst ds | .ins _ ds | .dct _ ds => belowL m ds
  | _ => true
def belowL (m : Nat) : List D → Bool
  | [] => true
  | d :: ds => below m d && belowL m ds
end
section
variable {K : PySem.W.Frag} {C : CI} {S A : List Addr} {H : Hp} {Δ : Store} {x : Addr}
theorem notMem_left {a : Addr} (h : a ∉ A ++ [x]) : a ∉ A := fun q => h (List.mem_append_left _ q)
mutual
theorem Rep.drop : ∀ (d : D) {v : V}, below A.length d = true → Rep K C S (A ++ [x]) H v d → Rep K C S A H v d
  | .non, _, _, h => by cases h; exact .non
  | .bl b, _, _, h => by cases h; exact .bl b
  | .int i, _, _, h => by cases h; exact .int i
  | .str x, _, _, h => by cases h; exact .str x
  | .ty n, _, _, h => by cases h; exact .ty n
  | .cls c, _, _, h => by cases h; exact .cls c
  | .tup ds, _, hb, h => by cases h with | tup h hA hS r => exact .tup h (notMem_left hA) hS (RepL.drop_ ds hb r)
  | .lst ds, _, hb, h => by cases h with | lst h hA hS r => exact .lst h (notMem_left hA) hS (RepL.drop_ ds hb r)
  | .ins c ds, _, hb, h => by cases h with | ins h hA hS hl r => exact .ins h (notMem_left hA) hS hl (RepL.drop_ ds hb r)
  | .dct ks ds, _, hb, h => by cases h with | dct h hA hS hl r => exact .dct h (notMem_left hA) hS hl (RepL.drop_ ds hb r)
  | .cell n, _, hb, h => by
    cases h with
    | cell h =>
      have hn : n < A.length := of_decide_eq_true hb
      rw [List.getElem?_append_left hn] at h
      exact .cell h
  | .scr ns, _, _, h => by
    cases h with
    | scr h =>
      rcases h with ⟨h, hA, hS⟩ | h
      · exact .scr (.inl ⟨h, notMem_left hA, hS⟩)
      · exact .scr (.inr h)
theorem RepL.drop_ : ∀ (ds : List D) {vs : List V}, belowL A.length ds = true → RepL K C S (A ++ [x]) H vs ds → RepL K C S A H vs ds
  | [], _, _, h => by cases h; exact .nil
  | d :: ds, _, hb, h => by
    have hb' : (below A.length d && belowL A.length ds) = true := hb
    rw [Bool.and_eq_true] at hb'
    cases h with
    | cons h r => exact .cons (Rep.drop d hb'.1 h) (RepL.drop_ ds hb'.2 r)
end
mutual
theorem Rep.blw : ∀ (d : D) {v : V}, Rep K C S A H v d → below A.length d = true
  | .non, _, h => rfl
  | .bl b, _, h => rfl
  | .int i, _, h => rfl
  | .str x, _, h => rfl
  | .ty n, _, h => rfl
  | .cls c, _, h => rfl
  | .tup ds, _, h => by cases h with | tup h hA hS r => exact RepL.blw ds r
  | .lst ds, _, h => by cases h with | lst h hA hS r => exact RepL.blw ds r
  | .ins c ds, _, h => by cases h with | ins h hA hS hl r => exact RepL.blw ds r
  | .dct ks ds, _, h => by cases h with | dct h hA hS hl r => exact RepL.blw ds r
  | .cell n, _, h => by cases h with | cell h => exact decide_eq_true (List.getElem?_eq_some_iff.mp h).1
  | .scr ns, _, h => rfl
theorem RepL.blw : ∀ (ds : List D) {vs : List V}, RepL K C S A H vs ds → belowL A.length ds = true
  | [], _, _ => rfl
  | d :: ds, _, h => by
    cases h with
    | cons h r =>
      show (Z.below A.length d && belowL A.length ds) = true
      rw [Rep.blw d h, RepL.blw ds r]
      rfl
end
theorem zip_of : ∀ {ns : List Str} {xs : List (Str × V)}, xs.map (·.1) = ns → xs = ns.zip (xs.map (·.2))
  | [], [], _ => rfl
  | [], _ :: _, e => by simp at e
  | _ :: _, [], e => by simp at e
  | n :: ns, (m, x) :: xs, e => by
    obtain ⟨e1, e2⟩ := List.cons.inj e
    have e1 : m = n := e1
    subst e1
    rw [List.map_cons, List.zip_cons_cons, ← zip_of e2]
theorem zip_fst : ∀ {ns : List Str} {es : List D}, es.length = ns.length → (ns.zip es).map (·.1) = ns
  | [], [], _ => rfl
  | [], _ :: _, e => by simp at e
  | _ :: _, [], e => by simp at e
  | n :: ns, d :: es, e => by
    rw [List.zip_cons_cons, List.map_cons, zip_fst (by simpa using e)]
theorem zip_snd : ∀ {ns : List Str} {es : List D}, es.length = ns.length → (ns.zip es).map (·.2) = es
  | [], [], _ => rfl
  | [], _ :: _, e => by simp at e
  | _ :: _, [], e => by simp at e
  | n :: ns, d :: es, e => by
    rw [List.zip_cons_cons, List.map_cons, zip_snd (by simpa using e)]
/-- the last cell forgotten: an instance that stays as it is -/
theorem Cells.freeze {H0 : Hp} {c : Nat} {es : List D} (c1 : Cells K C S A H0 Δ) (hc : Cells K C S (A ++ [x]) H (Δ ++ [.ins c ((C.nms c).zip es)])) (hl : es.length = (C.nms c).length) (hb : belowL A.length es = true) : Cells K C S A H Δ ∧ Rep K C S A H (.ref x) (.ins c es) := by
  have lenΔ := c1.len
  refine ⟨⟨c1.len, c1.nd, c1.dj, hc.as, fun n a o h1 h2 => ?_⟩, ?_⟩
  · have hn : n < A.length := (List.getElem?_eq_some_iff.mp h1).1
    have q := hc.at_ n a o (by rw [List.getElem?_append_left hn]; exact h1) (by rw [List.getElem?_append_left (by rw [← lenΔ]; exact hn)]; exact h2)
    have q0 := c1.at_ n a o h1 h2
    cases o with
    | lst ds =>
      obtain ⟨xs, g1, g2⟩ := q
      obtain ⟨_, _, g3⟩ := q0
      exact ⟨xs, g1, RepL.drop_ ds (RepL.blw ds g3) g2⟩
    | ins c fs =>
      obtain ⟨dx, xs, g1, g2, g3⟩ := q
      obtain ⟨_, _, _, _, g4⟩ := q0
      exact ⟨dx, xs, g1, g2, RepL.drop_ _ (RepL.blw _ g4) g3⟩
    | dct ks ds =>
      obtain ⟨xs, g1, g2, g3⟩ := q
      obtain ⟨_, _, _, g4⟩ := q0
      exact ⟨xs, g1, g2, RepL.drop_ _ (RepL.blw _ g4) g3⟩
  · have q := hc.at_ A.length x (.ins c ((C.nms c).zip es)) (by rw [List.getElem?_append_right (Nat.le_refl _), Nat.sub_self] <;> rfl) (by rw [lenΔ, List.getElem?_append_right (Nat.le_refl _), Nat.sub_self] <;> rfl)
    obtain ⟨dx, xs, g1, g2, g3⟩ := q
    rw [zip_fst hl] at g2
    rw [zip_snd hl] at g3
    have hx : x ∉ A := fun h => by
      have := List.nodup_append.mp hc.nd
      exact this.2.2 x h x (by simp) rfl
    have hxS : x ∉ S := hc.dj x (by simp)
    rw [zip_of g2] at g1
    exact .ins g1 hx hxS (by rw [g3.length]; exact hl) (RepL.drop_ es hb g3)
end
/-- C(..), never changed again: what __init__ makes of a new cell, as data -/
def zMakeF (C : CI) (c : Nat) (W : ZRC) (dds : List D) (za : ZA) : ZE := fun Γ Δ P => za Γ Δ fun ds Δ1 => W (.cell Δ1.length :: (ds ++ dds)) (Δ1 ++ [.ins c []]) fun v Δ2 => v = .non ∧ ∃ es, Δ2 = Δ1 ++ [.ins c ((C.nms c).zip es)] ∧ es.length = (C.nms c).length ∧ belowL Δ1.length es = true ∧ P (.ins c es) Δ1
section
variable {C : CI} {X : Cx} {e : Expr} {es : List Expr} {za : ZA} {pos p : Pos} {x : Str} {k : Nat} {f : Addr} {fd : FuncData} {ps : List Str} {W : ZRC} {dvs : List V} {dds : List D} {ds : List Value}
theorem ref_make {K : PySem.W.Frag} {c : Nat} {ta : TA} {E : XK} (ha : RefA K C ta za) (hdd : ∀ S A H, RepL K C S A H dvs dds) : RefE K C (tMake (C.adr c) (SpZ K C W) dvs E ta) (zMakeF C c W dds za) := fun S A σ H Γ Δ P Q hs hc hz k =>
  ha S A σ H Γ Δ _ _ hs hc hz fun vs ds A1 H1 Δ1 e1 c1 r1 p x dx hx hdx hne => by
    have hx0 : upd H1 dx (.own x) x = none := by rw [upd_ne (Ne.symm hne)]; exact hx
    have e2 : Ext A1 H1 A1 (upd H1 dx (.own x)) := Ext.new hdx
    have e3 : Ext A1 (upd H1 dx (.own x)) (A1 ++ [x]) (upd (upd H1 dx (.own x)) x (.ins (C.adr c) dx [])) := Ext.newCell hx0
    have e23 := e2.trans e3
    refine ⟨S, A1 ++ [x], Δ1 ++ [.ins c []], .cell Δ1.length :: (ds ++ dds), _, .cons (.cell ?_) ((r1.ext e23).append (hdd _ _ _)), (c1.new hdx).newO (o := .ins c []) hx0 ⟨dx, [], upd_same, rfl, .nil⟩, p, fun v d A' H' Δ' e4 c4 r4 p4 => ?_⟩
    · rw [← c1.len, List.getElem?_append_right (Nat.le_refl _), Nat.sub_self] <;> rfl
    · obtain ⟨rfl, es, rfl, hl, hb, p4⟩ := p4
      cases r4
      refine ⟨rfl, ?_⟩
      have hA' : A' = A1 ++ [x] := by
        obtain ⟨B, hB, _⟩ := e4.pre
        have hlen := c4.len
        rw [hB, List.length_append, List.length_append, List.length_append, c1.len] at hlen
        have hB0 : B.length = 0 := by
          have h1 : ([x] : List Addr).length = 1 := rfl
          have h2 : ([O.ins c ((C.nms c).zip es)] : List O).length = 1 := rfl
          omega
        rw [List.length_eq_zero_iff.mp hB0, List.append_nil] at hB
        exact hB
      subst hA'
      obtain ⟨c5, r5⟩ := c1.freeze c4 hl (by rw [c1.len]; exact hb)
      have e14 := e23.trans e4
      refine k _ _ A1 H' Δ1 (e1.trans ⟨⟨[], by simp, by simp⟩, fun a o h1 h2 => e14.keep a o h1 h2, e14.trk⟩) c5 r5 p4
theorem ez_makeF {c : Nat} (M : Mk X.K (C.adr c) f) (F : FnOk X.prog X.w X.K X.mg X.base CX0 k f fd ps (SpZ X.K C W)) (hr : Room (k + 1) X.A) (hm : X.mg x = some (.ref (C.adr c))) (hb : Binds X.K fd ps ds) (hd : Vals dvs ds) (hdd : ∀ S A H, RepL X.K C S A H dvs dds)
    (ha : AZ C X (e :: es) za) (hg : Gl X x := by rfl) (hdb : (x == ("__debug__" : Str)) = false := by decide) (he : starEach (e :: es) X.env = (false, eval e X.env) :: starEach es X.env := by rfl) (hpl : (backTo pos (starEach es X.env)).any (·.1) = false := by rfl) :
    EZ C X (.Call (.Name x p) (e :: es) [] pos) (zMakeF C c W dds za) := by
  obtain ⟨t, a1, a2⟩ := ha.ex
  exact ⟨_, pe_make M F hr hg hm hb hd (E := E0) pass0 a1 hdb he hpl, ref_make a2 hdd⟩
end

/-! ### isinstance -/
def tyD (C : CI) (Δ : Store) : D → Option Value
  | .non => some (.type "NoneType")
  | .bl _ => some (.type "bool")
  | .int _ => some (.type "int")
  | .str _ => some (.type "str")
  | .tup _ => some (.type "tuple")
  | .lst _ => some (.type "list")
  | .ins c _ => some (.ref (C.adr c))
  | .cell n => match Δ[n]? with
    | some (.lst _) => some (.type "list")
    | some (.ins c _) => some (.ref (C.adr c))
    | _ => none
  | _ => none
def clsD (C : CI) : D → Option Value
  | .ty n => some (.type n)
  | .cls c => some (.ref (C.adr c))
  | _ => none
/-- what the written part says of a class whose instances are asked for their class -/
structure Isi (K : PySem.W.Frag) (Ca : Addr) : Prop where
  cl : Cls K Ca
  ha : PySem.W.findIn K (.ref Ca) "__class__" = some (some (.builtin "object.__class__"))
  hn : PySem.W.specialIn K (.builtin "object.__class__") "__get__" = some (some (.builtin "getset_descriptor.__get__"))
  htk : PySem.W.takesIn K (.builtin "object.__class__") = some true
  hm : PySem.W.mroIn K Ca (.type "object") = some true
def zIsi (K : PySem.W.Frag) (C : CI) : ZRC := fun ds Δ P => ∃ x y t u b, ds = [x, y] ∧ tyD C Δ x = some t ∧ clsD C y = some u ∧ (∀ Ca, t = .ref Ca → Isi K Ca) ∧ PySem.W.kitOne K t u = some b ∧ P (.bl b) Δ
section
variable {C : CI} {X : Cx}
theorem Rep.tyX {K : PySem.W.Frag} {S A : List Addr} {H : Hp} {Δ : Store} {v : V} {d : D} {t : Value} (hc : Cells K C S A H Δ) (r : Rep K C S A H v d) (h : tyD C Δ d = some t) (hI : ∀ Ca, t = .ref Ca → Isi K Ca) : TyX K H v t := by
  cases r with
  | non => cases h; exact .base .non
  | bl b => cases h; exact .base (.bl b)
  | int b => cases h; exact .base (.int b)
  | str b => cases h; exact .base (.str b)
  | tup h1 _ _ _ => cases h; exact .base (.tup h1)
  | lst h1 _ _ _ => cases h; exact .base (.lst h1)
  | ins h1 _ _ _ _ =>
    cases h
    have q := hI _ rfl
    exact .base (.ins h1 q.cl q.ha q.hn q.htk q.hm)
  | cell e =>
    rename_i a n
    unfold tyD at h
    cases q : Δ[n]? with
    | none => simp only [q] at h; cases h
    | some o =>
      cases o with
      | lst ds =>
        simp only [q] at h
        cases h
        obtain ⟨xs, h1, h2⟩ := hc.at_ n a _ e q
        exact .base (.lst h1)
      | ins c fs =>
        simp only [q] at h
        cases h
        obtain ⟨dx, xs, h1, h2⟩ := hc.at_ n a _ e q
        have q := hI _ rfl
        exact .base (.ins h1 q.cl q.ha q.hn q.htk q.hm)
      | dct _ _ => simp only [q] at h; cases h
  | ty n => exact nomatch h
  | scr _ => exact nomatch h
  | cls _ => exact nomatch h
  | dct _ _ _ _ _ => exact nomatch h
theorem Rep.clsV {K : PySem.W.Frag} {S A : List Addr} {H : Hp} {v : V} {d : D} {u : Value} (r : Rep K C S A H v d) (h : clsD C d = some u) : ClsV v u := by
  cases r with
  | ty n => cases h; exact .ty n
  | cls c => cases h; exact .own _
  | non => exact nomatch h
  | dct _ _ _ _ _ => exact nomatch h
  | bl b => exact nomatch h
  | int b => exact nomatch h
  | str b => exact nomatch h
  | tup _ _ _ _ => exact nomatch h
  | lst _ _ _ _ => exact nomatch h
  | ins _ _ _ _ _ => exact nomatch h
  | cell _ => exact nomatch h
  | scr _ => exact nomatch h
theorem cz_isi : CallZ C X (.builtin "isinstance") (zIsi X.K C) := ⟨_, call_isi, fun S A H Δ xs ds P Q hc r hz k => by
  obtain ⟨x, y, t, u, b, rfl, h1, h2, h3, h4, q⟩ := hz
  obtain ⟨v, v', rfl, rv, rv'⟩ := two_rep r
  exact ⟨v, v', t, u, b, rfl, rv'.clsV h2, rv.tyX hc h1 h3, h4, k _ _ A H Δ (Ext.refl _ _) hc (.bl _) q⟩⟩
theorem ez_cls {c : Nat} {x : Str} {pos : Pos} (hm : X.mg x = some (.ref (C.adr c))) (hg : Gl X x := by rfl) (hd : (x == ("__debug__" : Str)) = false := by decide) : EZ C X (.Name x pos) (zC (.cls c)) :=
  ⟨_, pe_glob (v := .ref (C.adr c)) hg hm rfl hd, ref_c fun _ _ _ => .cls c⟩
end
end Z

/-! Z6: defs that are entered with no guard around (repr asks it), repr of data, the law's call. -/
namespace Z
open PySem PySem.Spec PyProof.Rows L2

/-- a promise that is kept where no repr is under way -/
structure FnG (P : Program) (w : World) (K : PySem.W.Frag) (mg : Str → Option Value) (base : Heap) (k : Nat) (f : Addr) (fd : FuncData) (ps : List Str) (sp : Sp) : Prop where
  arity : ∀ ws hp q x, sp ws hp q x → ws.length = ps.length
  go : ∀ (B : Around) (fr : List PySem.Env) (st : Shared) (hp : Hp) (ar : Args) (us : List Value) (ws : List V) (q : VK) (x : XK), B.guards = some [] → Room k B → Env0 P w K mg base B fr st hp → BindsTo st fd ar (ps.zip us) → Vals ws us → sp ws hp q x →
    codeAny (model P w) B (.call (.ref f) ar) (CR CX0 fr P w hp st q x) st
section
variable {P : Program} {w : World} {K : PySem.W.Frag} {mg : Str → Option Value} {base : Heap} {k : Nat} {f : Addr} {fd : FuncData} {ps : List Str} {sp : Sp}
theorem fng_of (F : FnOk P w K mg base CX0 k f fd ps sp) : FnG P w K mg base k f fd ps sp := ⟨F.len, fun B fr st hp ar us ws q x _ => F.run B fr st hp ar us ws q x⟩
/-- a def's body, entered with no guard around -/
theorem fng_ok {y qual : Str} {sm : Stmt} {N : List Str} {W : ZRC} {C : CI} (F : Fun K y qual sm f fd) (Sc : FnScope N ps (defScope sm)) (len : ∀ ds Δ P, W ds Δ P → ds.length = ps.length)
    (body : ∀ (cdv : Value) (B : Around) (fr : List PySem.Env) (st : Shared) (hp : Hp) (x : XK), (cxOf CX0 P w K mg base N qual (defScope sm) f cdv B fr st hp x).nox.A.guards = some [] → Room k (B.deeper (PyProof.Rows.envOfC qual (defScope sm) st.heap.objs.size f cdv)) →
      ∃ z : ZS, SZs C (cxOf CX0 P w K mg base N qual (defScope sm) f cdv B fr st hp x).nox (defBody sm) z ∧ ∀ ds Δ P, W ds Δ P → z { nx := fun _ Δ' => P .non Δ', rt := P } (startZ N ds) Δ) : FnG P w K mg base (k + 1) f fd ps (SpZ K C W) := by
  have lenV : ∀ ws hp q x, SpZ K C W ws hp q x → ws.length = ps.length := fun ws hp q x h => by
    obtain ⟨S, A, Δ, ds, P, r, _, hw, _⟩ := h
    rw [r.length]
    exact len ds Δ P hw
  obtain ⟨oc, od, kV, doc, pm, an, cdv, ct, osl, rfl, lk, hcd⟩ := F.ex
  refine ⟨lenV, fun B fr st hp ar us ws q x hg hr e0 hb r hsp => ?_⟩
  have there := fun b o e => (e0.bs b o e).1
  have KX := e0.mod.kin.keeps there
  have locals_ : ∀ z ∈ ps.zip us, (defScope sm).names.lookup z.1 = some .local ∨ ((defScope sm).names.lookup z.1 = some .cell ∧ ((cellsFrom (st.heap.objs.size + 1) (defScope sm).names []).lookup z.1).isSome = true) := fun z hz => by
    obtain ⟨n, v⟩ := z
    exact (Sc.par n (List.of_mem_zip hz).1).elim Or.inl fun c => .inr ⟨c, PySem.W.cellsFrom_some _ _ _ (.inl c)⟩
  refine codeAny_call_function hr.depth (KX _ _ lk) rfl Sc.co Sc.gen rfl (PySem.W.codeRec_of KX hcd) (hb _ _ _ _ ?_)
  refine wpAny_newFunctionEnv_cells Sc.kind locals_ fun nv enr s1 inC => ?_
  subst enr
  refine ⟨(e0.mod.nolimit.keeps there).keeps inC.toInCall.keep, codeAny_func ?_⟩
  obtain ⟨z, hz, hzz⟩ := body cdv B fr st hp x hg (hr.deeper _)
  obtain ⟨ts, h1, h2⟩ := hz.ex
  obtain ⟨S, A', Δ, ds, P', rl, hc, hw, kk⟩ := hsp
  have I : Inv (cxOf CX0 P w K mg base N qual (defScope sm) f cdv B fr st hp x) [] (L2.start N ws) hp s1 := inv_start Sc hr.hd e0 (lenV ws hp q x ⟨S, A', Δ, ds, P', rl, hc, hw, kk⟩) r inC
  have rd : ts { nx := fun _ H' => q .non H', rt := q } (L2.start N ws) hp := h2 S A' _ hp (startZ N ds) Δ { nx := fun _ Δ' => P' .non Δ', rt := P' } _ (slots_start rl) hc (hzz ds Δ P' hw)
    ⟨fun σ' A2 H2 Γ2 Δ2 e2 s2 c2 y => kk .non .non A2 H2 Δ2 e2 c2 .non y, fun σ' A2 H2 Γ2 Δ2 e2 s2 c2 y => y.elim, fun σ' A2 H2 Γ2 Δ2 e2 s2 c2 y => y.elim, fun v d A2 H2 Δ2 e2 c2 r2 y => kk v d A2 H2 Δ2 e2 c2 r2 y⟩
  refine wpAny_mono (h1.nox.run [] s1 _ hp _ I rd) (fun fl s' hs => ?_) fun _ _ y => y
  cases fl with
  | ret u =>
    obtain ⟨v, σ', H', J, rv, y⟩ := hs
    exact ⟨v, H', J.os, J.bare, J.base, J.hok, rv, y⟩
  | next =>
    obtain ⟨σ', H', J, y⟩ := hs
    exact ⟨V.non, H', J.os, J.bare, J.base, J.hok, rfl, y⟩
  | brk =>
    obtain ⟨_, _, _, y⟩ := hs
    exact False.elim y
  | cont =>
    obtain ⟨_, _, _, y⟩ := hs
    exact False.elim y
end
section
variable {C : CI} {X : Cx} {e : Expr} {es : List Expr} {za : ZA} {pos p : Pos} {x : Str} {k : Nat} {f : Addr} {fd : FuncData} {ps : List Str} {W : ZRC}
theorem ez_callG (F : FnG X.prog X.w X.K X.mg X.base k f fd ps (SpZ X.K C W)) (gd : X.A.guards = some []) (hr : Room k X.A) (hm : X.mg x = some (.ref f)) (hk : PySem.W.keepIn X.K (.ref f) = true) (hb : Binds X.K fd ps [])
    (ha : AZ C X (e :: es) za) (hg : Gl X x := by rfl) (hdb : (x == ("__debug__" : Str)) = false := by decide) (he : starEach (e :: es) X.env = (false, eval e X.env) :: starEach es X.env := by rfl) (hpl : (backTo pos (starEach es X.env)).any (·.1) = false := by rfl) :
    EZ C X (.Call (.Name x p) (e :: es) [] pos) (zCall W [] za) := by
  obtain ⟨t, a1, a2⟩ := ha.ex
  refine ⟨tCall (SpZ X.K C W) [] E0 t, ⟨fun pins s σ H Q I h => ?_⟩, ref_call a2 fun _ _ _ => .nil⟩
  refine wpAny_Call_Name_kw (ld_glob I hg hm ?_ hdb)
  refine PySem.W.callWith_K (h₀ := X.base) I.ok.mod.kin hk (thn (a1.run pos pins s σ H _ I h) fun us s1 got => ?_) he hpl
  obtain ⟨vs, H1, I1, r, q⟩ := got
  rw [List.append_nil] at q
  refine ⟨I1.kIn, ?_⟩
  have hl : us.length = ps.length := by rw [← r.length]; exact F.arity _ _ _ _ q
  have bd : BindsTo s1 fd ⟨us, []⟩ (ps.zip us) := by
    have b := hb s1 us I1.kIn (by rw [List.append_nil]; exact hl)
    rw [List.append_nil] at b
    exact b
  refine wpAny_call (codeAny_mono (F.go X.A X.stack s1 H1 ⟨us, []⟩ us vs Q E0 gd hr I1.env0 bd r q) fun res s' hq => ?_)
  match res, hq with
  | .error e, hq => exact hq.elim
  | .ok (.ret u), hq => exact I1.after hq
  | .ok .next, hq => exact False.elim hq
  | .ok .brk, hq => exact False.elim hq
  | .ok .cont, hq => exact False.elim hq

/-! ### repr -/
mutual
theorem noDict_pd : ∀ d : D, plainD d = true → (pd d).hasDict = false
  | .non, _ => rfl
  | .bl _, _ => rfl
  | .int _, _ => rfl
  | .str _, _ => rfl
  | .tup ds, h => by show PyData.hasDictAll (pds ds) = false; exact noDict_pds ds h
  | .lst ds, h => by show PyData.hasDictAll (pds ds) = false; exact noDict_pds ds h
  | .ty _, h => by cases h
  | .ins _ _, h => by cases h
  | .cell _, h => by cases h
  | .scr _, h => by cases h
  | .cls _, h => by cases h
  | .dct _ _, h => by cases h
theorem noDict_pds : ∀ ds : List D, plainDs ds = true → PyData.hasDictAll (pds ds) = false
  | [], _ => rfl
  | d :: ds, h => by
    have h' : (plainD d && plainDs ds) = true := h
    rw [Bool.and_eq_true] at h'
    show ((pd d).hasDict || PyData.hasDictAll (pds ds)) = false
    rw [noDict_pd d h'.1, noDict_pds ds h'.2]
    rfl
end
/-- what repr can show -/
structure Showable (d : D) : Prop where
  pl : plainD d = true
  sh : (pd d).showable = true
  dp : (pd d).depth ≤ 60
  sz : (pd d).shown.length ≤ sizeLine
def zRepr : ZRC := fun ds Δ P => ∃ d, ds = [d] ∧ Showable (rd Δ d) ∧ P (.str (pd (rd Δ d)).shown) Δ
theorem cr_repr (gd : X.A.guards = some []) (hu : X.A.units + 64 < cLine) : CallR X (.builtin "repr") (fun xs H Q => ∃ x d, xs = [x] ∧ Dp X.K H x (pd d) ∧ Showable d ∧ Q (.str (pd d).shown) H) := by
  intro pins s σ H xs us Q I r h
  obtain ⟨x, d, rfl, hd, sh, q⟩ := h
  obtain ⟨u, rfl, ru⟩ := vals1 r
  have nd := noDict_pd d sh.pl
  obtain ⟨_, hs, hdp, hsz⟩ := sh
  generalize pd d = e at *
  have dspl : ∀ a, x = .ref a → wpAny (model X.prog X.w) X.A (call (.builtin "repr") [u]) (EP X pins σ Q) X.xe s := fun a hx => by
    subst hx
    obtain rfl : u = Value.ref a := ru
    obtain ⟨as, rr⟩ := Dp.reads I e (.ref a) (.ref a) hd rfl
    exact PySem.repr_of_reads' rr hs (PyData.noDict_hsm nd) gd (by omega) (fun _ _ e => e) (fun h' u tk hk => ⟨.str _, H, I.kept (t' := tk) hk, ⟨u, rfl⟩, q⟩) hsz
  cases hd with
  | non => obtain rfl : u = Value.none := ru; exact PySem.P.repr_of_none ⟨.str _, H, I.tok _, ⟨_, rfl⟩, q⟩
  | bl b => obtain rfl : u = Value.bool b := ru; exact PySem.P.repr_of_bool ⟨.str _, H, I.tok _, ⟨_, rfl⟩, q⟩
  | int i => obtain ⟨t, rfl⟩ := ru; exact PySem.P.repr_of_int (of_decide_eq_true hs) ⟨.str _, H, I.tok _, ⟨_, rfl⟩, q⟩
  | str z => obtain ⟨t, rfl⟩ := ru; exact PySem.P.repr_of_str ⟨.str _, H, I.tok _, ⟨_, rfl⟩, q⟩ hsz
  | lst h1 h2 => exact dspl _ rfl
  | tup h1 h2 => exact dspl _ rfl
theorem cz_repr (gd : X.A.guards = some []) (hu : X.A.units + 64 < cLine) : CallZ C X (.builtin "repr") zRepr := ⟨_, cr_repr gd hu, fun S A H Δ xs ds P Q hc r hz k => by
  obtain ⟨d, rfl, sh, q⟩ := hz
  obtain ⟨v, rfl, rv⟩ := one_rep r
  exact ⟨v, rd Δ d, rfl, dp_rd hc rv sh.pl, sh, k _ _ A H Δ (Ext.refl _ _) hc (.str _) q⟩⟩
end

/-! ### the law is called -/
section
variable {P : Program} {w : World} {K : PySem.W.Frag} {mg mb : Str → Option Value} {k : Nat} {fa a : Addr} {fd : FuncData} {x : Str} {s₁ : Shared} {vs : List Value} {ns : List Int} {C : CI} {W : ZRC}
theorem law_callG (KX : K.In s₁.heap) (hns : s₁.heap.Ns mainGlobals mg) (hb : s₁.heap.Ns builtinsNs mb) (hbb : ∀ x : Str, x ≠ "__name__" → mb x = bootBuiltins x) (hlim : s₁.heap.NoLimit) (hg : s₁.gens = #[])
    (ha : s₁.heap.get? a = some { cls := .type "list", data := .seq vs.toArray }) (hi : IntsAre vs ns) (hl : ns.length ≤ sizeLine) (hr : Room k callerA)
    (F : ∀ base : Heap, K.In base → base.Ns mainGlobals mg → FnG P w K mg base k fa fd [x] (SpZ K C W)) (hbind : ∀ (s : Shared) (u : Value), BindsTo s fd ⟨[u], []⟩ [(x, u)])
    (hW : W [.scr ns] [] fun d _ => d = .bl true) :
    codeAny (model P w) callerA (.call (.ref fa) ⟨[.ref a], []⟩) (fun r s' => r = .ok (.ret (.bool true)) ∧ OldK s₁.heap s'.heap ∧ s'.os = s₁.os ∧ AllBare s'.gens) s₁ := by
  have rv := vals_ints hi
  have lenV := hi.length
  have main : ∀ H : Hp, Only H → Rep K C [] [] H (.ref a) (.scr ns) → HOk P w H s₁.heap → (∀ b, H b ≠ none → b = a) → (H a ≠ none → K.lookup a = none) →
      codeAny (model P w) callerA (.call (.ref fa) ⟨[.ref a], []⟩) (fun r s' => r = .ok (.ret (.bool true)) ∧ OldK s₁.heap s'.heap ∧ s'.os = s₁.os ∧ AllBare s'.gens) s₁ := by
    intro H hO hS hok hA hK
    have free_of : ∀ {b : Addr} {o : Obj}, s₁.heap.get? b = some o → (b = a → False) → H b = none := fun {b o} e n => by
      cases q : H b with
      | none => rfl
      | some u => exact (n (hA b (by rw [q]; simp))).elim
    have dicts : ∀ {b : Addr} {m : Str → Option Value}, s₁.heap.Ns b m → (hidT s₁.heap H).Ns b m := fun {b m} hNs => by
      obtain ⟨o, es, ep, e, d, r⟩ := hNs
      refine ⟨o, es, ep, hidT_get e (free_of e fun q => ?_), d, r⟩
      subst q
      rw [ha] at e
      cases e
      exact nomatch (show Data.seq vs.toArray _ = Data.dict es ep from d)
    have hKb : K.In (hidT s₁.heap H) := fun b o e => hidT_get (KX b o e) (by
      cases q : H b with
      | none => rfl
      | some u =>
        have e' := hA b (by rw [q]; simp)
        subst e'
        rw [hK (by rw [q]; simp)] at e
        exact nomatch e)
    have hM : Mod K mg (hidT s₁.heap H) := by
      obtain ⟨mc, h1, h2⟩ := hlim
      exact ⟨hKb, dicts hns, ⟨mb, dicts hb, hbb⟩, ⟨mc, dicts h1, h2⟩⟩
    have e0 : Env0 P w K mg (hidT s₁.heap H) callerA [] s₁ H := ⟨rfl, hM, fun b o e => of_hidT e, Nat.le_of_eq (hidT_size _ _), trivial, fun b hb => (nomatch (show b ∈ ([] : List Addr) from hb)), hok, AllBare.of_eq hg⟩
    have cells : Cells K C [] [] H [] := ⟨rfl, List.nodup_nil, fun b hb => (nomatch hb), fun b hb => (nomatch hb), fun n b o h _ => by simp at h⟩
    have sp : SpZ K C W [.ref a] H (fun v _ => v = .bl true) (fun _ _ _ => False) := ⟨[], [], [], [.scr ns], _, .cons hS .nil, cells, hW, fun v d A' H' Δ' _ _ r q => by
      subst q
      cases r
      rfl⟩
    refine codeAny_mono ((F _ hKb (dicts hns)).go callerA [] s₁ H ⟨[.ref a], []⟩ [.ref a] [.ref a] _ _ rfl hr e0 (hbind s₁ (.ref a)) (.cons rfl .nil) sp) fun r s' h => ?_
    match r, h with
    | .error e, h => exact h.elim
    | .ok .next, h => exact False.elim h
    | .ok .brk, h => exact False.elim h
    | .ok .cont, h => exact False.elim h
    | .ok (.ret u), h =>
      obtain ⟨v, H', os, bare, un, hok', r', q⟩ := h
      have q' : v = .bl true := q
      subst q'
      obtain rfl : u = Value.bool true := r'
      refine ⟨rfl, OldK.of_keep fun b o e => ?_, os, bare⟩
      rcases hO b with z | ⟨ob, xs, z⟩
      · exact un.keep b o e z (fun y => (nomatch (show b ∈ ([] : List Addr) from y))) (by simp)
      · obtain ⟨e1, _⟩ := hok b _ z
        obtain ⟨e2, _⟩ := hok' b _ (un.frzs b ob _ z)
        rw [e] at e1
        cases e1
        exact e2
  cases hk : K.lookup a with
  | some o =>
    have e := KX a o hk
    rw [ha] at e
    cases e
    exact main (fun _ => none) (fun _ => .inl rfl) (.scr (.inr ⟨_, vs.toArray, _, hk, rfl, rfl, rfl, by rw [List.size_toArray, lenV]; exact hl, by simpa using rv⟩)) (fun b u z => (nomatch (show (none : Option HO) = some u from z))) (fun b z => absurd rfl z) fun z => absurd rfl z
  | none =>
    have at_a : (fun b => if b = a then some (HO.frz { cls := .type "list", data := .seq vs.toArray } (.lst (ns.map V.int))) else none : Hp) a = some (.frz { cls := .type "list", data := .seq vs.toArray } (.lst (ns.map V.int))) := if_pos rfl
    refine main (fun b => if b = a then some (HO.frz { cls := .type "list", data := .seq vs.toArray } (.lst (ns.map V.int))) else none) (fun b => ?_) (.scr (.inl ⟨⟨_, at_a⟩, by simp, by simp⟩)) (fun b u z => ?_) (fun b z => ?_) fun _ => hk
    · by_cases h : b = a
      · subst h; exact .inr ⟨_, _, at_a⟩
      · exact .inl (if_neg h)
    · by_cases h : b = a
      · subst h
        have z' := at_a.symm.trans z
        cases z'
        exact ⟨ha, by rw [List.length_map]; exact hl, vs, _, rv, ha⟩
      · exact nomatch (if_neg h).symm.trans z
    · by_cases h : b = a
      · exact h
      · exact absurd (if_neg h) z
end
theorem walkG {l : PySem.W.OpenLaw} {n k : Nat} {q : Program} {loose : List Str} {XP : (Str → Option Value) → Heap → Prop} {YP : World → Heap → Prop} {d : DefRec} {K : Params → PySem.W.Frag} {x : Str} {W : ZRC}
    (hn : l.most = some n) (hn2 : n ≤ sizeLine) (hdf : d.params.defaults = []) (hr : Room k callerA) (hY : ∀ (w : World) (h : Heap), YP w h → (K w.params).In h)
    (F : ∀ (w : World) (mg : Str → Option Value) (fa : Addr) (h : Heap), (K w.params).In h → h.Ns mainGlobals mg → mg d.name = some (.ref fa) →
      ∃ (fd : FuncData) (C : CI), (∀ (s : Shared) (u : Value), BindsTo s fd ⟨[u], []⟩ [(x, u)]) ∧ ∀ base : Heap, (K w.params).In base → base.Ns mainGlobals mg → FnG l.prog w (K w.params) mg base k fa fd [x] (SpZ (K w.params) C W))
    (hW : ∀ ns : List Int, ns.length ≤ n → W [.scr ns] [] fun d _ => d = .bl true) : PySem.W.WalkO q loose XP YP l.row.toRowW d [] (fun f vs => PySem.call f vs) := by
  refine Att.attach_call hn hdf fun w s₀ s₁ mg mb fa o pm cd doc a vs ns G Y ho hd hcd hmg hobj hints hlen hg => ?_
  obtain ⟨fd, C, hb, hF⟩ := F w mg fa _ (hY w _ Y) G.T.g hmg
  exact law_callG (hY w _ Y) G.T.g G.T.b G.T.builtins G.T.nolimit hg hobj hints (Nat.le_trans hlen hn2) hr hF hb (hW ns hlen)
end Z

/-! Z7: blocks of comprehensions, products of ints and of lists, == of own classes, more. -/
namespace Z
open PySem PySem.Spec PyProof.Rows L2

/-- the reading that a reading over data stands for -/
def up (K : PySem.W.Frag) (C : CI) (z : ZE) : TE := fun σ H Q => ∃ S A Γ Δ P, Slots K C S A H σ Γ ∧ Cells K C S A H Δ ∧ z Γ Δ P ∧ ∀ v d A' H' Δ', Ext A H A' H' → Cells K C S A' H' Δ' → Rep K C S A' H' v d → P d Δ' → Q v H'
def upT (K : PySem.W.Frag) (C : CI) (z : ZT) : TT := fun σ H Q => ∃ S A Γ Δ P, Slots K C S A H σ Γ ∧ Cells K C S A H Δ ∧ z Γ Δ P ∧ ∀ b A' H' Δ', Ext A H A' H' → Cells K C S A' H' Δ' → P b Δ' → Q b H'
theorem ref_up {K : PySem.W.Frag} {C : CI} {z : ZE} : RefE K C (up K C z) z := fun S A σ H Γ Δ P Q hs hc hz k => ⟨S, A, Γ, Δ, P, hs, hc, hz, k⟩
theorem ref_upT {K : PySem.W.Frag} {C : CI} {z : ZT} : RefT K C (upT K C z) z := fun S A σ H Γ Δ P Q hs hc hz k => ⟨S, A, Γ, Δ, P, hs, hc, hz, k⟩
theorem EZ.up {C : CI} {X : Cx} {e : Expr} {z : ZE} (h : EZ C X e z) : PE X e (Z.up X.K C z) := by
  obtain ⟨t, h1, h2⟩ := h.ex
  refine ⟨fun pins s σ H Q I q => h1.run pins s σ H Q I ?_⟩
  obtain ⟨S, A, Γ, Δ, P, hs, hc, hz, k⟩ := q
  exact h2 S A σ H Γ Δ P Q hs hc hz k
theorem TsZ.up {C : CI} {X : Cx} {es : List Expr} {z : ZT} (h : TsZ C X es z) : PTs X es (upT X.K C z) := by
  obtain ⟨t, h1, h2⟩ := h.ex
  refine ⟨fun pins s σ H Q I q => h1.run pins s σ H Q I ?_⟩
  obtain ⟨S, A, Γ, Δ, P, hs, hc, hz, k⟩ := q
  exact h2 S A σ H Γ Δ P Q hs hc hz k
theorem ref_gName {K : PySem.W.Frag} {C : CI} {i : Nat} : RefG K C (gName i) (zgName i) := fun S A σ H Γ Δ v d P Q hs hc r hz k => k _ A H _ Δ (Ext.refl _ _) (hs.set i r) hc hz
theorem ref_gNil {K : PySem.W.Frag} {C : CI} : RefGs K C gNil zgNil := fun S A σ H Γ Δ vs ds P Q hs hc r hz k => by
  obtain ⟨rfl, p⟩ := hz
  cases r
  exact ⟨rfl, k _ A H _ Δ (Ext.refl _ _) hs hc p⟩
theorem ref_gCons {K : PySem.W.Frag} {C : CI} {g : TG} {gs : TGs} {z : ZG} {zs : ZGs} (h : RefG K C g z) (hr : RefGs K C gs zs) : RefGs K C (gCons g gs) (zgCons z zs) := fun S A σ H Γ Δ vs ds P Q hs hc r hz k => by
  obtain ⟨d, rest, rfl, p⟩ := hz
  cases r with
  | cons r1 r2 => exact ⟨_, _, rfl, h S A σ H Γ Δ _ d _ _ hs hc r1 p fun σ' A' H' Γ' Δ' e1 s1 c1 p1 => hr S A' σ' H' Γ' Δ' _ rest P Q s1 c1 (r2.ext e1) p1 (k.ext e1)⟩
theorem ref_gTup {K : PySem.W.Frag} {C : CI} {gs : TGs} {zs : ZGs} {n : Nat} (h : RefGs K C gs zs) : RefG K C (gTup K n gs) (zgTup n zs) := fun S A σ H Γ Δ v d P Q hs hc r hz k => by
  obtain ⟨ds, rfl, hl, p⟩ := hz
  cases r with
  | tup h1 h2 h3 r => exact ⟨_, _, rfl, SqT.of h1, by rw [r.length]; exact hl, h S A σ H Γ Δ _ ds P Q hs hc r p k⟩
section
variable {C : CI} {X : Cx}
theorem blkz {scope : Scope} {tg : Expr} {ifs : List Expr} {elt : Expr} {g : TG} {zg : ZG} {zt : ZT} {ze : ZE} (hr : RefG X.K C g zg)
    (hg : ∀ (s : Shared) (H : Hp) (Ca : Addr) (cl : List (Str × Addr)) (fp : List Addr), PG (X.blk s H scope (compEnvC scope cl Ca X.env) fp) tg g)
    (ht : ∀ (s : Shared) (H : Hp) (Ca : Addr) (cl : List (Str × Addr)) (fp : List Addr), TsZ C (X.blk s H scope (compEnvC scope cl Ca X.env) fp) ifs zt)
    (he : ∀ (s : Shared) (H : Hp) (Ca : Addr) (cl : List (Str × Addr)) (fp : List Addr), EZ C (X.blk s H scope (compEnvC scope cl Ca X.env) fp) elt ze) : BlkZ C X scope tg ifs elt g zg zt ze :=
  ⟨upT X.K C zt, up X.K C ze, fun s H Ca cl fp => ⟨hg s H Ca cl fp, (ht s H Ca cl fp).up, (he s H Ca cl fp).up⟩, hr, ref_upT, ref_up⟩

/-! ### products -/
def zMulA : ZR2 := fun x y Δ P => (∃ i j, x = .int i ∧ y = .int j ∧ MulOk i j ∧ P (.int (i * j)) Δ) ∨ zRepeat x y Δ P
theorem oz_mulA : OpZ C X (binaryOp .Mult) zMulA := by
  obtain ⟨r, h1, h2⟩ := (oz_mul (C := C) (X := X)).ex
  obtain ⟨r', h1', h2'⟩ := (oz_rep (C := C) (X := X)).ex
  refine ⟨_, OpR.or h1 h1', fun S A H Δ x y dx dy P Q hc rx ry hz k => ?_⟩
  rcases hz with ⟨i, j, q1, q2, q3, q4⟩ | hz
  · exact .inl (h2 S A H Δ x y dx dy P Q hc rx ry ⟨i, j, q1, q2, q3, q4⟩ k)
  · exact .inr (h2' S A H Δ x y dx dy P Q hc rx ry hz k)
/-- xs[::-1] -/
def zRev (z : ZE) : ZE := fun Γ Δ P => z Γ Δ fun x Δ1 => ∃ ds, lstD Δ1 x = some ds ∧ P (.lst ds.reverse) Δ1
theorem ez_rev {e : Expr} {z : ZE} {p1 p2 p3 pos : Pos} (h : EZ C X e z) {k : Nat} : EZ C X (.Subscript e (.Slice none none (some (.UnaryOp .USub (.Constant (.int 1) k p1) p2)) p3) pos) (zRev z) := by
  obtain ⟨t, h1, h2⟩ := h.ex
  refine ⟨_, pe_revL h1, fun S A σ H Γ Δ P Q hs hc hz k => h2 S A σ H Γ Δ _ _ hs hc hz fun v d A1 H1 Δ1 e1 c1 r1 p => ?_⟩
  obtain ⟨ds, hd, p⟩ := p
  obtain ⟨a, xs, rfl, g1, g2⟩ := Rep.lst_ c1 r1 hd
  refine ⟨a, xs, rfl, SqL.of g1, fun q hq => ?_⟩
  exact k _ _ A1 _ Δ1 (e1.trans (Ext.new hq)) (c1.new hq) (.lst upd_same (c1.fresh hq) (c1.aside hq) (g2.reverse.ext (Ext.new hq))) p
/-- a list or a tuple is walked -/
def ziOr (a b : ZI) : ZI := fun Γ Δ P => a Γ Δ P ∨ b Γ Δ P
theorem iz_or {tg iter : Expr} {a b : ZI} (ha : IZ C X tg iter a) (hb : IZ C X tg iter b) : IZ C X tg iter (ziOr a b) := by
  obtain ⟨t, h1, h2⟩ := ha.ex
  obtain ⟨u, g1, g2⟩ := hb.ex
  refine ⟨fun σ H R => t σ H R ∨ u σ H R, ⟨fun pins s σ H R I h => h.elim (h1.run pins s σ H R I) (g1.run pins s σ H R I)⟩, fun S A σ H Γ Δ P R hs hc hz k => ?_⟩
  rcases hz with hz | hz
  · exact .inl (h2 S A σ H Γ Δ P R hs hc hz k)
  · exact .inr (g2 S A σ H Γ Δ P R hs hc hz k)
theorem iz_seq {tg iter : Expr} {z : ZE} (h : EZ C X iter z) : IZ C X tg iter (ziOr (ziList z) (ziTup z)) := iz_or (iz_list h) (iz_tup h)

/-! ### an own == -/
def plainTys : List String := ["NoneType", "bool", "int", "str", "tuple", "list"]
/-- what the class has that its own == is asked first -/
structure EqO (K : PySem.W.Frag) (Ca f : Addr) : Prop where
  at_ : PySem.W.findIn K (.ref Ca) "__eq__" = some (some (.ref f))
  fn : PySem.W.isFn K (.ref f) = true
  first : ∀ n ∈ plainTys, PySem.W.notFirst K Ca (.type n) = true
  isi : Isi K Ca
def zEqO (C : CI) (c : Nat) (W : ZRC) : ZR2 := fun x y Δ P => insD Δ c x ∧ (∃ t, tyD C Δ y = some t ∧ (t = .ref (C.adr c) ∨ ∃ n, n ∈ plainTys ∧ t = .type n)) ∧ W [x, y] Δ fun d Δ' => ∃ b, d = .bl b ∧ P (.bl b) Δ'
theorem oz_eqO {c k : Nat} {f : Addr} {fd : FuncData} {ps : List Str} {W : ZRC} (F : FnOk X.prog X.w X.K X.mg X.base CX0 k f fd ps (SpZ X.K C W)) (hr : Room k X.A) (E : EqO X.K (C.adr c) f) (hb : Binds X.K fd ps []) : OpZ C X (compareOp .Eq) (zEqO C c W) := by
  refine ⟨fun x y H Q => ∃ a dx fs t, x = .ref a ∧ H a = some (.ins (C.adr c) dx fs) ∧ TyX X.K H y t ∧ (t = .ref (C.adr c) ∨ ∃ n, n ∈ plainTys ∧ t = .type n) ∧ SpZ X.K C W [x, y] H (fun v H' => ∃ b, v = .bl b ∧ Q (.bl b) H') E0, ?_, ?_⟩
  · intro pins s σ H x y v u Q I rx ry h
    obtain ⟨a, dx, fs, t, rfl, ha, ty, ht, sp⟩ := h
    obtain rfl : v = Value.ref a := rx
    obtain ⟨mA, J, _⟩ := ins_get I.hok ha
    obtain ⟨od, J, _⟩ := J.look
    obtain ⟨P, kx, hp, _⟩ := kit_of I ry ty
    obtain ⟨m, hF⟩ := I.fr
    have hn : PySem.W.notFirst X.K (C.adr c) t = true := by
      rcases ht with rfl | ⟨n, hn, rfl⟩
      · simp [PySem.W.notFirst]
      · exact E.first n hn
    show wpAny _ _ (richCompare .Eq (.ref a) u) _ _ _
    refine PySem.W.cmp_K (op := .Eq) (tb := t) hr.units0 hF I.ok.mod.kin J (kx.ty _ _ I.kIn hp) hn E.at_ E.fn ?_
    have hl := F.len _ _ _ _ sp
    have r2 : Vals [V.ref a, y] [Value.ref a, u] := .cons rfl (.cons ry .nil)
    refine wpAny_call (codeAny_mono (F.run X.A X.stack s H ⟨[.ref a, u], []⟩ [.ref a, u] [.ref a, y] _ _ hr I.env0 (by
      have b := hb s [.ref a, u] I.kIn (by rw [List.append_nil]; exact hl)
      rw [List.append_nil] at b
      exact b) r2 sp) fun r s' hq => ?_)
    match r, hq with
    | .error e, hq => exact hq.elim
    | .ok .next, hq => exact False.elim hq
    | .ok .brk, hq => exact False.elim hq
    | .ok .cont, hq => exact False.elim hq
    | .ok (.ret w), hq =>
      obtain ⟨z, H', I', rz, b, ez, q⟩ := I.after hq
      subst ez
      cases rz
      exact ⟨.bl b, H', I', rfl, q⟩
  · intro S A H Δ x y dx dy P Q hc rx ry hz k
    obtain ⟨hi, ⟨t, ht, ht2⟩, w⟩ := hz
    obtain ⟨a, dx, fs, rfl, g1⟩ := rx.inst hc hi
    refine ⟨a, dx, fs, t, rfl, g1, ry.tyX hc ht fun Ca e => ?_, ht2, S, A, Δ, _, _, .cons rx (.cons ry .nil), hc, w, fun v d A' H' Δ' e2 c2 r2 p2 => ?_⟩
    · rcases ht2 with h | ⟨n, _, h⟩
      · rw [h] at e; cases e; exact E.isi
      · rw [h] at e; cases e
    · obtain ⟨b, rfl, p2⟩ := p2
      cases r2
      exact ⟨b, rfl, k _ _ A' H' Δ' e2 c2 (.bl b) p2⟩
def zEqA (C : CI) (c : Nat) (W : ZRC) : ZR2 := fun x y Δ P => zEq x y Δ P ∨ zEqO C c W x y Δ P
theorem oz_eqA {c k : Nat} {f : Addr} {fd : FuncData} {ps : List Str} {W : ZRC} (F : FnOk X.prog X.w X.K X.mg X.base CX0 k f fd ps (SpZ X.K C W)) (hr : Room k X.A) (E : EqO X.K (C.adr c) f) (hb : Binds X.K fd ps []) : OpZ C X (compareOp .Eq) (zEqA C c W) := by
  obtain ⟨r, h1, h2⟩ := (oz_eq (C := C) (X := X) hr.units).ex
  obtain ⟨r', h1', h2'⟩ := (oz_eqO (C := C) (X := X) F hr E hb).ex
  refine ⟨_, OpR.or h1 h1', fun S A H Δ x y dx dy P Q hc rx ry hz k => ?_⟩
  rcases hz with hz | hz
  · exact .inl (h2 S A H Δ x y dx dy P Q hc rx ry hz k)
  · exact .inr (h2' S A H Δ x y dx dy P Q hc rx ry hz k)
end
end Z

/-! Z8: defs with defaults, results that are cells, cells that are frozen, the law's end. -/
namespace Z
open PySem PySem.Spec PyProof.Rows L2

/-- a def as it stands behind the top, whatever its defaults -/
structure FunZ (K : PySem.W.Frag) (x qual : Str) (st : Stmt) (f : Addr) (fd : FuncData) : Prop where
  ex : ∃ (oc : Value) (od : Option Addr) (dV kV doc pm : Value) (an : Option Addr) (cdv ct : Value) (osl : Array (Option Value)),
    fd = PySem.W.fnOf x qual (defArgs st) (defBody st) (defScope st) dV kV doc pm an cdv ct ∧ K.lookup f = some ⟨oc, od, .func fd, osl⟩ ∧ PySem.W.codeIn K cdv qual = true
  kp : PySem.W.keepIn K (.ref f) = true
theorem Fun.z {K : PySem.W.Frag} {x qual : Str} {st : Stmt} {f : Addr} {fd : FuncData} (F : Fun K x qual st f fd) : FunZ K x qual st f fd := by
  obtain ⟨oc, od, kV, doc, pm, an, cdv, ct, osl, h1, h2, h3⟩ := F.ex
  exact ⟨⟨oc, od, _, kV, doc, pm, an, cdv, ct, osl, h1, h2, h3⟩, F.kp⟩
theorem FunD.z {K : PySem.W.Frag} {x qual : Str} {st : Stmt} {f : Addr} {fd : FuncData} {dvs : List V} {kws : List (Str × V)} (F : FunD K x qual (defArgs st) (defBody st) (defScope st) dvs kws f fd) : FunZ K x qual st f fd := by
  obtain ⟨oc, od, dV, kV, doc, pm, an, cdv, ct, osl, h1, h2, h3, _⟩ := F.ex
  exact ⟨⟨oc, od, dV, kV, doc, pm, an, cdv, ct, osl, h1, h2, h3⟩, F.kp⟩
section
variable {P : Program} {w : World} {K : PySem.W.Frag} {mg : Str → Option Value} {base : Heap} {C : CI} {k : Nat} {f : Addr} {fd : FuncData} {ps : List Str} {W : ZRC}
theorem fnz_okZ {y qual : Str} {st : Stmt} {N : List Str} (F : FunZ K y qual st f fd) (Sc : FnScope N ps (defScope st)) (len : ∀ ds Δ P, W ds Δ P → ds.length = ps.length)
    (body : ∀ (cdv : Value) (A : Around) (outer : List PySem.Env) (s : Shared) (H : Hp) (E : XK), Room k (A.deeper (PyProof.Rows.envOfC qual (defScope st) s.heap.objs.size f cdv)) →
      ∃ z : ZS, SZs C (cxOf CX0 P w K mg base N qual (defScope st) f cdv A outer s H E).nox (defBody st) z ∧ ∀ ds Δ P, W ds Δ P → z { nx := fun _ Δ' => P .non Δ', rt := P } (startZ N ds) Δ) : FnOk P w K mg base CX0 (k + 1) f fd ps (SpZ K C W) := by
  obtain ⟨oc, od, dV, kV, doc, pm, an, cdv, ct, osl, rfl, lk, hcd⟩ := F.ex
  refine fn_of lk hcd Sc (fun vs H Q E h => ?_) (fun A outer s H vs Q E hr h => ?_)
  · obtain ⟨S, A, Δ, ds, P, r, _, hw, _⟩ := h
    rw [r.length]
    exact len ds Δ P hw
  · obtain ⟨S, A', Δ, ds, P', r, hc, hw, kk⟩ := h
    obtain ⟨z, hz, hzz⟩ := body cdv A outer s H E hr
    obtain ⟨ts, h1, h2⟩ := hz.ex
    refine ⟨ts, h1.nox, h2 S A' _ H (startZ N ds) Δ { nx := fun _ Δ' => P' .non Δ', rt := P' } _ (slots_start r) hc (hzz ds Δ P' hw) ⟨?_, ?_, ?_, ?_⟩⟩
    · exact fun σ' A2 H2 Γ2 Δ2 e2 s2 c2 q => kk .non .non A2 H2 Δ2 e2 c2 .non q
    · exact fun σ' A2 H2 Γ2 Δ2 e2 s2 c2 q => q.elim
    · exact fun σ' A2 H2 Γ2 Δ2 e2 s2 c2 q => q.elim
    · exact fun v d A2 H2 Δ2 e2 c2 r2 q => kk v d A2 H2 Δ2 e2 c2 r2 q

/-! ### a new list that the caller never changes -/
theorem Cells.freezeL {K : PySem.W.Frag} {C : CI} {S A : List Addr} {H H0 : Hp} {Δ : Store} {x : Addr} {es : List D} (c1 : Cells K C S A H0 Δ) (hc : Cells K C S (A ++ [x]) H (Δ ++ [.lst es])) (hb : belowL A.length es = true) : Cells K C S A H Δ ∧ Rep K C S A H (.ref x) (.lst es) := by
  have lenΔ := c1.len
  refine ⟨⟨c1.len, c1.nd, c1.dj, hc.as, fun n a o h1 h2 => ?_⟩, ?_⟩
  · have hn : n < A.length := (List.getElem?_eq_some_iff.mp h1).1
    have q := hc.at_ n a o (by rw [List.getElem?_append_left hn]; exact h1) (by rw [List.getElem?_append_left (by rw [← lenΔ]; exact hn)]; exact h2)
    have q0 := c1.at_ n a o h1 h2
    cases o with
    | lst ds =>
      obtain ⟨xs, g1, g2⟩ := q
      obtain ⟨_, _, g3⟩ := q0
      exact ⟨xs, g1, RepL.drop_ ds (RepL.blw ds g3) g2⟩
    | ins c fs =>
      obtain ⟨dx, xs, g1, g2, g3⟩ := q
      obtain ⟨_, _, _, _, g4⟩ := q0
      exact ⟨dx, xs, g1, g2, RepL.drop_ _ (RepL.blw _ g4) g3⟩
    | dct ks ds =>
      obtain ⟨xs, g1, g2, g3⟩ := q
      obtain ⟨_, _, _, g4⟩ := q0
      exact ⟨xs, g1, g2, RepL.drop_ _ (RepL.blw _ g4) g3⟩
  · have q := hc.at_ A.length x (.lst es) (by rw [List.getElem?_append_right (Nat.le_refl _), Nat.sub_self] <;> rfl) (by rw [lenΔ, List.getElem?_append_right (Nat.le_refl _), Nat.sub_self] <;> rfl)
    obtain ⟨xs, g1, g2⟩ := q
    have hx : x ∉ A := fun h => by
      have := List.nodup_append.mp hc.nd
      exact this.2.2 x h x (by simp) rfl
    exact .lst g1 hx (hc.dj x (by simp)) (RepL.drop_ es hb g2)
def frz (W : ZRC) : ZRC := fun ds Δ P => W ds Δ fun d Δ' => ∃ es, d = .cell Δ.length ∧ Δ' = Δ ++ [.lst es] ∧ belowL Δ.length es = true ∧ P (.lst es) Δ
theorem sp_frz {vs : List V} {H : Hp} {Q : VK} {E : XK} (h : SpZ K C (frz W) vs H Q E) : SpZ K C W vs H Q E := by
  obtain ⟨S, A, Δ, ds, P, r, hc, hw, kk⟩ := h
  refine ⟨S, A, Δ, ds, _, r, hc, hw, fun v d A' H' Δ' e c r' q => ?_⟩
  obtain ⟨es, rfl, rfl, hb, p⟩ := q
  cases r' with
  | cell g =>
    rename_i x
    have hA' : A' = A ++ [x] := by
      obtain ⟨B, hB, _⟩ := e.pre
      have hlen := c.len
      have hl1 : ([O.lst es] : List O).length = 1 := rfl
      rw [hB, List.length_append, List.length_append, hc.len, hl1] at hlen
      have hB1 : B.length = 1 := by omega
      obtain ⟨b, hb1⟩ := List.length_eq_one_iff.mp hB1
      rw [hB, hb1, ← hc.len, List.getElem?_append_right (Nat.le_refl _), Nat.sub_self] at g
      cases g
      rw [hB, hb1]
    subst hA'
    obtain ⟨c5, r5⟩ := hc.freezeL c (by rw [hc.len]; exact hb)
    exact kk _ _ A H' Δ ⟨⟨[], by simp, by simp⟩, fun a o h1 h2 => e.keep a o h1 h2, e.trk⟩ c5 r5 p
theorem fn_frz (F : FnOk P w K mg base CX0 k f fd ps (SpZ K C W)) : FnOk P w K mg base CX0 k f fd ps (SpZ K C (frz W)) := F.imp fun _ _ _ _ h => sp_frz h
end
section
variable {C : CI} {X : Cx}
/-- new lists that are changed later -/
def zRepeatC : ZR2 := fun x y Δ P => ∃ ds k, lstD Δ x = some ds ∧ y = .int k ∧ -(2 ^ 63) ≤ k ∧ k < 2 ^ 63 ∧ ds.length * k.toNat ≤ 100000 ∧ P (.cell Δ.length) (Δ ++ [.lst (List.replicate k.toNat ds).flatten])
theorem oz_repC : OpZ C X (binaryOp .Mult) zRepeatC := ⟨_, op_rep, fun S A H Δ x y dx dy P Q hc rx ry hz k => by
  obtain ⟨ds, i, h1, rfl, h2, h3, hl, p⟩ := hz
  obtain ⟨a, xs, rfl, g1, g2⟩ := Rep.lst_ hc rx h1
  cases ry
  refine ⟨a, i, xs, rfl, rfl, g1, h2, h3, sz100 (by rw [g2.length]; exact hl), fun q hq => ?_⟩
  refine k _ _ (A ++ [q]) _ _ (Ext.newCell hq) (hc.newCell hq (g2.repl _)) (.cell ?_) p
  rw [← hc.len, List.getElem?_append_right (Nat.le_refl _), Nat.sub_self]
  rfl⟩
def zCatC : ZR2 := fun x y Δ P => ∃ ds es, lstD Δ x = some ds ∧ lstD Δ y = some es ∧ ds.length + es.length ≤ 100000 ∧ P (.cell Δ.length) (Δ ++ [.lst (ds ++ es)])
theorem oz_catC : OpZ C X (binaryOp .Add) zCatC := ⟨_, op_cat, fun S A H Δ x y dx dy P Q hc rx ry hz k => by
  obtain ⟨ds, es, h1, h2, hl, p⟩ := hz
  obtain ⟨a, xs, rfl, g1, g2⟩ := Rep.lst_ hc rx h1
  obtain ⟨b, ys, rfl, g3, g4⟩ := Rep.lst_ hc ry h2
  refine ⟨a, b, xs, ys, rfl, rfl, g1, g3, sz100 (by rw [g2.length, g4.length]; exact hl), fun q hq => ?_⟩
  refine k _ _ (A ++ [q]) _ _ (Ext.newCell hq) (hc.newCell hq (g2.append g4)) (.cell ?_) p
  rw [← hc.len, List.getElem?_append_right (Nat.le_refl _), Nat.sub_self]
  rfl⟩
end
theorem walkZ {l : PySem.W.OpenLaw} {n k : Nat} {q : Program} {loose : List Str} {XP : (Str → Option Value) → Heap → Prop} {YP : World → Heap → Prop} {d : DefRec} {K : Params → PySem.W.Frag} {x : Str}
    (hn : l.most = some n) (hn2 : n ≤ sizeLine) (hdf : d.params.defaults = []) (hr : Room k callerA) (hY : ∀ (w : World) (h : Heap), YP w h → (K w.params).In h)
    (F : ∀ (w : World) (mg : Str → Option Value) (fa : Addr) (h : Heap), (K w.params).In h → h.Ns mainGlobals mg → mg d.name = some (.ref fa) →
      ∃ (fd : FuncData) (C : CI) (W : ZRC), (∀ (s : Shared) (u : Value), BindsTo s fd ⟨[u], []⟩ [(x, u)]) ∧ (∀ base : Heap, (K w.params).In base → base.Ns mainGlobals mg → FnG l.prog w (K w.params) mg base k fa fd [x] (SpZ (K w.params) C W)) ∧
        ∀ ns : List Int, ns.length ≤ n → W [.scr ns] [] fun d _ => d = .bl true) : PySem.W.WalkO q loose XP YP l.row.toRowW d [] (fun f vs => PySem.call f vs) := by
  refine Att.attach_call hn hdf fun w s₀ s₁ mg mb fa o pm cd doc a vs ns G Y ho hd hcd hmg hobj hints hlen hg => ?_
  obtain ⟨fd, C, W, hb, hF, hW⟩ := F w mg fa _ (hY w _ Y) G.T.g hmg
  exact law_callG (hY w _ Y) G.T.g G.T.b G.T.builtins G.T.nolimit hg hobj hints (Nat.le_trans hlen hn2) hr hF hb (hW ns hlen)
end Z

/-! M1: evaluating readings over data; loops and comprehensions over lists of data. -/
namespace Z
open PySem PySem.Spec PyProof.Rows L2

theorem at0 {α : Type} {a : α} {l : List α} : atI (a :: l) 0 = some a := atI_nat (j := 0) rfl
theorem at1 {α : Type} {a b : α} {l : List α} : atI (a :: b :: l) 1 = some b := atI_nat (j := 1) rfl
theorem at2 {α : Type} {a b c : α} {l : List α} : atI (a :: b :: c :: l) 2 = some c := atI_nat (j := 2) rfl
theorem at3 {α : Type} {a b c d : α} {l : List α} : atI (a :: b :: c :: d :: l) 3 = some d := atI_nat (j := 3) rfl
theorem at4 {α : Type} {a b c d e : α} {l : List α} : atI (a :: b :: c :: d :: e :: l) 4 = some e := atI_nat (j := 4) rfl
theorem atN {α : Type} {l : List α} {i : Int} (h0 : 0 ≤ i) (h1 : i < l.length) : ∃ d, l[i.toNat]? = some d ∧ atI l i = some d := by
  have hl : i.toNat < l.length := by omega
  refine ⟨l[i.toNat], List.getElem?_eq_getElem hl, ?_⟩
  have e : ((i.toNat : Nat) : Int) = i := by omega
  have q := atI_nat (xs := l) (j := i.toNat) (List.getElem?_eq_getElem hl)
  rw [e] at q
  exact q
theorem ix0 {n : Nat} (h : 0 < n) : ixN n 0 = some 0 := by unfold ixN; rw [if_pos (by decide), if_pos (by omega)]; rfl
theorem ix2_3 : ixN 3 2 = some 2 := by decide
theorem ix0_3 : ixN 3 0 = some 0 := by decide
theorem isNon_int (i : Int) : Z.isNon (.int i) = false := rfl
theorem isNon_non : Z.isNon .non = true := rfl
theorem dec_not {p : Prop} [Decidable p] : (decide p = false) = ¬ p := by simp
theorem dec_yes {p : Prop} [Decidable p] : (decide p = true) = p := by simp
theorem t_t : (true = true) = True := by simp
theorem t_f : (true = false) = False := by simp
theorem f_t : (false = true) = False := by simp
theorem f_f : (false = false) = True := by simp

local macro_rules | `(tactic| walk_at "zm") => `(tactic| simp only [zSeq, zAsg, zRet, zRetN, zIfS, zNext, zDrop, zPar, zVar, zC, zOp, zUn, zNeg, zI0, zI, zTest, zAnd, zOr, zNot, zAndV, zOrV, zNotV, zIf, zNil, zCons, zTup, zLst, zLstC, zgName, zgTup, zgCons, zgNil, zgSub, startZ, zCall, zCB, zChain, zIsN, zNotN, zNever,
  zAddA, zMulA, zRepeat, zCat, zIx, seqD, lstD, zMax2, zMin2, zAbs, zLen, zSum, zGcd, zInt, zYes, zBreak, zCont,
  at0, at1, at2, at3, at4, ix2_3, ix0_3, isNon_int, isNon_non, Bool.not_true, Bool.not_false,
  List.map_cons, List.map_nil, List.length_cons, List.length_nil, List.replicate_succ, List.replicate_zero, List.append_nil, List.nil_append, List.cons_append, List.getElem?_cons_zero, List.getElem?_cons_succ, List.set_cons_zero, List.set_cons_succ,
  Option.some.injEq, D.int.injEq, D.bl.injEq, D.tup.injEq, D.lst.injEq, D.str.injEq, D.cell.injEq, O.lst.injEq, reduceCtorEq, exists_eq_left', exists_eq_left, false_and, and_false, true_and, and_true, exists_false, or_false, false_or, exists_and_left, exists_eq', exists_and_right, List.cons.injEq, dec_not, dec_yes, t_t, t_f, f_t, f_f, true_implies, false_implies, implies_true, and_self, Nat.reduceAdd, Nat.reduceLeDiff, Nat.reduceSub, Nat.reduceLT])

/-! ### loops -/
/-- a for: an invariant over the number of items behind, the slots and the store -/
theorem loop_inv {body : D → ZS} {Z : ZEnds} (I : Nat → Env → Store → Prop) : ∀ (xs : List D) (k : Nat) (Γ : Env) (Δ : Store), I k Γ Δ →
    (∀ i x Γ Δ (Z' : ZEnds), xs[i]? = some x → I (k + i) Γ Δ → (∀ Γ' Δ', I (k + i + 1) Γ' Δ' → Z'.nx Γ' Δ') → (∀ Γ' Δ', I (k + i + 1) Γ' Δ' → Z'.ct Γ' Δ') → Z'.rt = Z.rt → Z'.bk = Z.nx → body x Z' Γ Δ) →
    (∀ Γ Δ, I (k + xs.length) Γ Δ → Z.nx Γ Δ) → loopZ body Z xs Γ Δ
  | [], k, Γ, Δ, h0, _, hd => hd Γ Δ h0
  | x :: xs, k, Γ, Δ, h0, hs, hd => by
    have tail : ∀ Γ' Δ', I (k + 0 + 1) Γ' Δ' → loopZ body Z xs Γ' Δ' := fun Γ' Δ' h => loop_inv I xs (k + 1) Γ' Δ' h
      (fun i y Γ Δ Z' hy hi hn hc => hs (i + 1) y Γ Δ Z' (by simpa using hy) (by rw [show k + (i + 1) = k + 1 + i by omega]; exact hi) (fun Γ' Δ' q => hn Γ' Δ' (by rw [show k + 1 + i + 1 = k + (i + 1) + 1 by omega]; exact q)) (fun Γ' Δ' q => hc Γ' Δ' (by rw [show k + 1 + i + 1 = k + (i + 1) + 1 by omega]; exact q)))
      (fun Γ Δ q => hd Γ Δ (by rw [show k + (x :: xs).length = k + 1 + xs.length by rw [List.length_cons]; omega]; exact q))
    exact hs 0 x Γ Δ { Z with nx := loopZ body Z xs, ct := loopZ body Z xs, bk := Z.nx } rfl h0 tail tail rfl rfl
/-- the same where the number of turns does not matter -/
theorem loop_all {body : D → ZS} {Z : ZEnds} (I : Env → Store → Prop) {xs : List D} {Γ : Env} {Δ : Store} (h0 : I Γ Δ)
    (hs : ∀ x Γ Δ (Z' : ZEnds), x ∈ xs → I Γ Δ → (∀ Γ' Δ', I Γ' Δ' → Z'.nx Γ' Δ') → (∀ Γ' Δ', I Γ' Δ' → Z'.ct Γ' Δ') → Z'.rt = Z.rt → Z'.bk = Z.nx → body x Z' Γ Δ)
    (hd : ∀ Γ Δ, I Γ Δ → Z.nx Γ Δ) : loopZ body Z xs Γ Δ :=
  loop_inv (fun _ => I) xs 0 Γ Δ h0 (fun _ x Γ Δ Z' hx => hs x Γ Δ Z' (List.mem_of_getElem? hx)) hd
/-! ### comprehensions -/
/-- each item gives f of it, the store stays -/
theorem comp_map {zg : ZG} {ze : ZE} {Γ0 : Env} {P : D → Store → Prop} {Δ : Store} {α : Type} {g : α → D} {f : α → D} : ∀ (xs : List α) (acc : List D), acc.length + xs.length ≤ 100000 →
    (∀ x ∈ xs, ∀ Q : D → Store → Prop, Q (f x) Δ → zg (g x) Γ0 Δ fun Γ2 Δ2 => ze Γ2 Δ2 Q) → P (.lst (acc ++ xs.map f)) Δ → compZ zg zYes ze Γ0 P (xs.map g) acc Δ
  | [], acc, _, _, h => by simpa [compZ] using h
  | x :: xs, acc, hl, hs, h => by
    have ih : compZ zg zYes ze Γ0 P (xs.map g) (acc ++ [f x]) Δ := comp_map xs (acc ++ [f x]) (by simp at hl ⊢; omega) (fun y hy => hs y (List.mem_cons_of_mem _ hy)) (by simpa using h)
    show zg (g x) Γ0 Δ fun Γ2 Δ2 => (true = true → ze Γ2 Δ2 fun y Δ4 => acc.length < 100000 ∧ compZ zg zYes ze Γ0 P (xs.map g) (acc ++ [y]) Δ4) ∧ (true = false → compZ zg zYes ze Γ0 P (xs.map g) acc Δ2)
    simp only [true_implies, reduceCtorEq, false_implies, and_true]
    exact hs x List.mem_cons_self _ ⟨by simp at hl; omega, ih⟩
end Z

/-! Z9: a call that is given a cell's content: the def neither changes nor keeps the cell. -/
namespace Z
open PySem PySem.Spec PyProof.Rows L2
section
variable {K : PySem.W.Frag} {C : CI} {S A : List Addr} {H : Hp} {Δ : Store}
mutual
theorem Rep.bare : ∀ (d : D) {v : V}, below 0 d = true → Rep K C S A H v d → Rep K C S [] H v d
  | .non, _, _, h => by cases h; exact .non
  | .bl b, _, _, h => by cases h; exact .bl b
  | .int i, _, _, h => by cases h; exact .int i
  | .str x, _, _, h => by cases h; exact .str x
  | .ty n, _, _, h => by cases h; exact .ty n
  | .cls c, _, _, h => by cases h; exact .cls c
  | .tup ds, _, hb, h => by cases h with | tup h hA hS r => exact .tup h (fun q => nomatch q) hS (RepL.bare ds hb r)
  | .lst ds, _, hb, h => by cases h with | lst h hA hS r => exact .lst h (fun q => nomatch q) hS (RepL.bare ds hb r)
  | .ins c ds, _, hb, h => by cases h with | ins h hA hS hl r => exact .ins h (fun q => nomatch q) hS hl (RepL.bare ds hb r)
  | .dct ks ds, _, hb, h => by cases h with | dct h hA hS hl r => exact .dct h (fun q => nomatch q) hS hl (RepL.bare ds hb r)
  | .cell n, _, hb, h => by have := of_decide_eq_true (p := n < 0) hb; omega
  | .scr ns, _, _, h => by
    cases h with
    | scr h =>
      rcases h with ⟨h, hA, hS⟩ | h
      · exact .scr (.inl ⟨h, (fun q => nomatch q), hS⟩)
      · exact .scr (.inr h)
theorem RepL.bare : ∀ (ds : List D) {vs : List V}, belowL 0 ds = true → RepL K C S A H vs ds → RepL K C S [] H vs ds
  | [], _, _, h => by cases h; exact .nil
  | d :: ds, _, hb, h => by
    have hb' : (below 0 d && belowL 0 ds) = true := hb
    rw [Bool.and_eq_true] at hb'
    cases h with
    | cons h r => exact .cons (Rep.bare d hb'.1 h) (RepL.bare ds hb'.2 r)
end
/-- a cell that holds a list, read -/
def thaw (Δ : Store) : D → D
  | .cell n => match Δ[n]? with
    | some (.lst ds) => .lst ds
    | _ => .cell n
  | d => d
theorem Rep.thw (hc : Cells K C S A H Δ) : ∀ (d : D) {v : V}, Z.below 0 (Z.thaw Δ d) = true → Rep K C S A H v d → Rep K C S [] H v (Z.thaw Δ d)
  | .cell n, v, hb, h => by
    unfold Z.thaw at hb ⊢
    cases q : Δ[n]? with
    | none => simp only [q] at hb; have := of_decide_eq_true (p := n < 0) hb; omega
    | some o =>
      cases o with
      | ins c fs => simp only [q] at hb; have := of_decide_eq_true (p := n < 0) hb; omega
      | dct ks fs => simp only [q] at hb; have := of_decide_eq_true (p := n < 0) hb; omega
      | lst ds =>
        simp only [q] at hb ⊢
        cases h with
        | cell e =>
          obtain ⟨xs, h1, h2⟩ := hc.at_ n _ _ e q
          exact .lst h1 (fun q => nomatch q) (hc.dj _ (List.mem_of_getElem? e)) (RepL.bare ds hb h2)
  | .non, _, hb, h => Rep.bare .non hb h
  | .bl b, _, hb, h => Rep.bare (.bl b) hb h
  | .int i, _, hb, h => Rep.bare (.int i) hb h
  | .str x, _, hb, h => Rep.bare (.str x) hb h
  | .ty n, _, hb, h => Rep.bare (.ty n) hb h
  | .cls c, _, hb, h => Rep.bare (.cls c) hb h
  | .tup ds, _, hb, h => Rep.bare (.tup ds) hb h
  | .lst ds, _, hb, h => Rep.bare (.lst ds) hb h
  | .ins c ds, _, hb, h => Rep.bare (.ins c ds) hb h
  | .scr ns, _, hb, h => Rep.bare (.scr ns) hb h
  | .dct ks ds, _, hb, h => Rep.bare (.dct ks ds) hb h
theorem RepL.thw (hc : Cells K C S A H Δ) : ∀ (ds : List D) {vs : List V}, Z.belowL 0 (ds.map (Z.thaw Δ)) = true → RepL K C S A H vs ds → RepL K C S [] H vs (ds.map (Z.thaw Δ))
  | [], _, _, h => by cases h; exact .nil
  | d :: ds, _, hb, h => by
    have hb' : (Z.below 0 (Z.thaw Δ d) && Z.belowL 0 (ds.map (Z.thaw Δ))) = true := hb
    rw [Bool.and_eq_true] at hb'
    cases h with
    | cons h r => exact .cons (Rep.thw hc d hb'.1 h) (RepL.thw hc ds hb'.2 r)
/-- a value that stands nowhere -/
def bareD : D → Bool
  | .non | .bl _ | .int _ | .str _ => true
  | _ => false
theorem Rep.of_bare {A' : List Addr} {v : V} {d : D} (hb : bareD d = true) (h : Rep K C S A' H v d) : Rep K C S A H v d := by
  cases h with
  | non => exact .non
  | bl b => exact .bl b
  | int i => exact .int i
  | str x => exact .str x
  | _ => cases hb
end
def zCallB (W : ZRC) (za : ZA) : ZE := fun Γ Δ P => za Γ Δ fun ds Δ1 => Z.belowL 0 (ds.map (Z.thaw Δ1)) = true ∧ W (ds.map (Z.thaw Δ1)) [] fun d _ => bareD d = true ∧ P d Δ1
section
variable {C : CI} {X : Cx} {e : Expr} {es : List Expr} {za : ZA} {pos p : Pos} {x : Str} {k : Nat} {f : Addr} {fd : FuncData} {ps : List Str} {W : ZRC}
theorem ref_callB {K : PySem.W.Frag} {ta : TA} {E : XK} (ha : RefA K C ta za) : RefE K C (tCall (SpZ K C W) [] E ta) (zCallB W za) := fun S A σ H Γ Δ P Q hs hc hz k =>
  ha S A σ H Γ Δ _ _ hs hc hz fun vs ds A1 H1 Δ1 e1 c1 r1 p => by
    obtain ⟨hb, p⟩ := p
    refine ⟨S, [], [], ds.map (Z.thaw Δ1), _, ?_, ⟨rfl, .nil, (fun a ha => nomatch ha), c1.as, (fun n a o h => nomatch h)⟩, p, fun v d A' H' Δ' e2 c2 r2 p2 => ?_⟩
    · rw [List.append_nil]; exact RepL.thw c1 ds hb r1
    · have kp : ∀ a o, H1 a = some o → H' a = some o := fun a o h => e2.keep a o (fun q => nomatch q) h
      exact k v d A1 H' Δ1 (e1.trans (Ext.kept kp)) (c1.kept kp) (r2.of_bare p2.1) p2.2
theorem ez_callb (F : FnOk X.prog X.w X.K X.mg X.base CX0 k f fd ps (SpZ X.K C W)) (hr : Room k X.A) (hm : X.mg x = some (.ref f)) (hk : PySem.W.keepIn X.K (.ref f) = true) (hb : Binds X.K fd ps [])
    (ha : AZ C X (e :: es) za) (hg : Gl X x := by rfl) (hdb : (x == ("__debug__" : Str)) = false := by decide) (he : starEach (e :: es) X.env = (false, eval e X.env) :: starEach es X.env := by rfl) (hpl : (backTo pos (starEach es X.env)).any (·.1) = false := by rfl) :
    EZ C X (.Call (.Name x p) (e :: es) [] pos) (zCallB W za) := by
  obtain ⟨t, a1, a2⟩ := ha.ex
  exact ⟨_, pe_call F hr hg hm hk hb .nil pass0 a1 hdb he hpl, ref_callB a2⟩
end
end Z

/-! Z10: an instance made by a call with keywords; a tuple's cut. -/
namespace Z
open PySem PySem.Spec PyProof.Rows L2
/-- where a parameter's value comes from: the i-th default, the j-th keyword -/
inductive Pk where
  | d (i : Nat)
  | k (j : Nat)
def picked {α : Type} (its ws : List α) : List Pk → List α
  | [] => []
  | .d i :: r => its[i]?.toList ++ picked its ws r
  | .k j :: r => ws[j]?.toList ++ picked its ws r
theorem Vals.opt {vs : List V} {us : List Value} (r : Vals vs us) (i : Nat) : Vals (vs[i]?.toList) (us[i]?.toList) := by
  induction r generalizing i with
  | nil => simp only [List.getElem?_nil, Option.toList_none]; exact .nil
  | cons h r ih =>
    cases i with
    | zero => exact .cons h .nil
    | succ i => exact ih i
theorem Vals.picked {vs zs : List V} {us ws : List Value} (r : Vals vs us) (r2 : Vals zs ws) : ∀ l : List Pk, Vals (Z.picked vs zs l) (Z.picked us ws l)
  | [] => .nil
  | .d i :: l => (Vals.opt r i).append (Vals.picked r r2 l)
  | .k j :: l => (Vals.opt r2 j).append (Vals.picked r r2 l)
section
variable {K : PySem.W.Frag} {C : CI} {S A : List Addr} {H : Hp}
theorem RepL.opt : ∀ {vs : List V} {ds : List D} (r : RepL K C S A H vs ds) (i : Nat), RepL K C S A H (vs[i]?.toList) (ds[i]?.toList)
  | _, _, .nil, i => by simp only [List.getElem?_nil, Option.toList_none]; exact .nil
  | _, _, .cons h r, 0 => .cons h .nil
  | _, _, .cons h r, i + 1 => RepL.opt r i
theorem RepL.picked {vs zs : List V} {us ws : List D} (r : RepL K C S A H vs us) (r2 : RepL K C S A H zs ws) : ∀ l : List Pk, RepL K C S A H (Z.picked vs zs l) (Z.picked us ws l)
  | [] => .nil
  | .d i :: l => (RepL.opt r i).append (RepL.picked r r2 l)
  | .k j :: l => (RepL.opt r2 j).append (RepL.picked r r2 l)
end
/-- no built-in type's value is an instance of an own class -/
theorem kit_no {K : PySem.W.Frag} {n : String} {Ca : Addr} (h1 : PySem.W.isClsIn K Ca = true) (h2 : PySem.W.typeIn K (.ref Ca) = some (.type "type")) (h3 : PySem.W.notFirst K Ca (.type n) = true) : PySem.W.kitOne K (.type n) (.ref Ca) = some false := by
  have e : (Value.type n == Value.ref Ca) = false := rfl
  unfold PySem.W.notFirst at h3
  rw [e, Bool.false_or] at h3
  unfold PySem.W.kitOne PySem.W.kitCls
  rw [e, if_neg (by decide)]
  show (if ((PySem.W.clsIn K Ca).isSome && PySem.W.typeIn K (.ref Ca) == some (.type "type")) = true then _ else none) = _
  rw [if_pos]
  · exact beq_iff_eq.mp h3
  · rw [show (PySem.W.clsIn K Ca).isSome = true from h1, h2]
    exact beq_self_eq_true _
/-- C(e, .., k = v, ..), never changed again -/
def zMakeK (C : CI) (c n m : Nat) (W : ZRC) (dds : List D) (l : List Pk) (za zk : ZA) : ZE := fun Γ Δ P => za Γ Δ fun ds Δ1 => zk Γ Δ1 fun zs Δ2 => ds.length = n ∧ zs.length = m ∧
  W (.cell Δ2.length :: (ds ++ picked dds zs l)) (Δ2 ++ [.ins c []]) fun v Δ3 => v = .non ∧ ∃ es, Δ3 = Δ2 ++ [.ins c ((C.nms c).zip es)] ∧ es.length = (C.nms c).length ∧ belowL Δ2.length es = true ∧ P (.ins c es) Δ2
/-- keywords -/
structure KZ (C : CI) (X : Cx) (kws : List Keyword) (z : ZA) : Prop where
  ex : ∃ t, PK X kws t ∧ RefA X.K C t z
section
variable {C : CI} {X : Cx} {e : Expr} {es : List Expr} {kws : List Keyword} {za zk : ZA} {ze : ZE} {pos p kpos : Pos} {x : Str} {k n : Nat} {f : Addr} {fd : FuncData} {ps ks : List Str} {W : ZRC} {dvs : List V} {dds : List D} {l : List Pk} {nm : Option Str}
theorem kz_nil : KZ C X [] zNil := ⟨_, pk_nil, fun S A σ H Γ Δ P Q hs hc hz k => k [] [] A H Δ (Ext.refl _ _) hc .nil hz⟩
theorem kz_cons (ha : EZ C X e ze) (hr : KZ C X kws zk) : KZ C X (⟨nm, e, kpos⟩ :: kws) (zCons ze zk) := by
  obtain ⟨t, h1, h2⟩ := ha.ex
  obtain ⟨u, g1, g2⟩ := hr.ex
  exact ⟨_, pk_cons h1 g1, fun S A σ H Γ Δ P Q hs hc hz k => h2 S A σ H Γ Δ _ _ hs hc hz fun x dx A1 H1 Δ1 e1 c1 r1 hz1 =>
    g2 S A1 σ H1 Γ Δ1 _ _ (hs.ext e1) c1 hz1 fun vs ds A2 H2 Δ2 e2 c2 r2 p => k _ _ A2 H2 Δ2 (e1.trans e2) c2 (.cons (r1.ext e2) r2) p⟩
theorem ref_makeK {K : PySem.W.Frag} {c m : Nat} {ta tk : TA} {E : XK} (ha : RefA K C ta za) (hk : RefA K C tk zk) (hdd : ∀ S A H, RepL K C S A H dvs dds) : RefE K C (tMakeK (C.adr c) n m (SpZ K C W) (fun vs zs => vs ++ picked dvs zs l) E ta tk) (zMakeK C c n m W dds l za zk) := fun S A σ H Γ Δ P Q hs hc hz k =>
  ha S A σ H Γ Δ _ _ hs hc hz fun vs ds A0 H0 Δ0 e0 c0 r0 p0 => hk S A0 σ H0 Γ Δ0 _ _ (hs.ext e0) c0 p0 fun zs ks A1 H1 Δ1 e01 c1 rk p => by
    obtain ⟨l1, l2, p⟩ := p
    have r1 := r0.ext e01
    have e1 := e0.trans e01
    refine ⟨by rw [r1.length]; exact l1, by rw [rk.length]; exact l2, fun x dx hx hdx hne => ?_⟩
    have hx0 : upd H1 dx (.own x) x = none := by rw [upd_ne (Ne.symm hne)]; exact hx
    have e2 : Ext A1 H1 A1 (upd H1 dx (.own x)) := Ext.new hdx
    have e3 : Ext A1 (upd H1 dx (.own x)) (A1 ++ [x]) (upd (upd H1 dx (.own x)) x (.ins (C.adr c) dx [])) := Ext.newCell hx0
    have e23 := e2.trans e3
    refine ⟨S, A1 ++ [x], Δ1 ++ [.ins c []], .cell Δ1.length :: (ds ++ picked dds ks l), _, .cons (.cell ?_) ((r1.ext e23).append (RepL.picked (hdd _ _ _) (rk.ext e23) l)), (c1.new hdx).newO (o := .ins c []) hx0 ⟨dx, [], upd_same, rfl, .nil⟩, p, fun v d A' H' Δ' e4 c4 r4 p4 => ?_⟩
    · rw [← c1.len, List.getElem?_append_right (Nat.le_refl _), Nat.sub_self] <;> rfl
    · obtain ⟨rfl, es, rfl, hl, hb, p4⟩ := p4
      cases r4
      refine ⟨rfl, ?_⟩
      have hA' : A' = A1 ++ [x] := by
        obtain ⟨B, hB, _⟩ := e4.pre
        have hlen := c4.len
        rw [hB, List.length_append, List.length_append, List.length_append, c1.len] at hlen
        have hB0 : B.length = 0 := by
          have h1 : ([x] : List Addr).length = 1 := rfl
          have h2 : ([O.ins c ((C.nms c).zip es)] : List O).length = 1 := rfl
          omega
        rw [List.length_eq_zero_iff.mp hB0, List.append_nil] at hB
        exact hB
      subst hA'
      obtain ⟨c5, r5⟩ := c1.freeze c4 hl (by rw [c1.len]; exact hb)
      have e14 := e23.trans e4
      refine k _ _ A1 H' Δ1 (e1.trans ⟨⟨[], by simp, by simp⟩, fun a o h1 h2 => e14.keep a o h1 h2, e14.trk⟩) c5 r5 p4
theorem ez_makeK {c : Nat} (M : Mk X.K (C.adr c) f) (F : FnOk X.prog X.w X.K X.mg X.base CX0 k f fd ps (SpZ X.K C W)) (hr : Room (k + 1) X.A) (hm : X.mg x = some (.ref (C.adr c))) (hb : ∃ its : List Value, KBn X.K fd ps (n + 1) ks (fun us ws => us ++ picked its ws l) (fun vs zs => vs ++ picked dvs zs l))
    (hdd : ∀ S A H, RepL X.K C S A H dvs dds) (ha : AZ C X (e :: es) za) (hk : KZ C X kws zk) (hg : Gl X x := by rfl)
    (hall : (backToKw pos (keywordEach kws X.env)).all (·.1.isSome) = true := by rfl) (hks : (backToKw pos (keywordEach kws X.env)).filterMap (·.1) = ks := by rfl) (hdb : (x == ("__debug__" : Str)) = false := by decide)
    (he : starEach (e :: es) X.env = (false, eval e X.env) :: starEach es X.env := by rfl) (hpl : ((backTo pos (starEach (e :: es) X.env)).any (·.1) || (backToKw pos (keywordEach kws X.env)).any (·.1.isNone)) = false := by rfl) :
    EZ C X (.Call (.Name x p) (e :: es) kws pos) (zMakeK C c n ks.length W dds l za zk) := by
  obtain ⟨t, a1, a2⟩ := ha.ex
  obtain ⟨u, k1, k2⟩ := hk.ex
  obtain ⟨its, hb⟩ := hb
  exact ⟨_, pe_makeK M F hr hg hm hb pass0 (E := E0) a1 k1 hall hks hdb he hpl, ref_makeK a2 k2 hdd⟩
theorem ez_makeK0 {c : Nat} (M : Mk X.K (C.adr c) f) (F : FnOk X.prog X.w X.K X.mg X.base CX0 k f fd ps (SpZ X.K C W)) (hr : Room (k + 1) X.A) (hm : X.mg x = some (.ref (C.adr c))) (hb : ∃ its : List Value, KBn X.K fd ps 1 ks (fun us ws => us ++ picked its ws l) (fun vs zs => vs ++ picked dvs zs l))
    (hdd : ∀ S A H, RepL X.K C S A H dvs dds) (hk : KZ C X kws zk) (hg : Gl X x := by rfl)
    (hall : (backToKw pos (keywordEach kws X.env)).all (·.1.isSome) = true := by rfl) (hks : (backToKw pos (keywordEach kws X.env)).filterMap (·.1) = ks := by rfl) (hdb : (x == ("__debug__" : Str)) = false := by decide)
    (hpl : ((backTo pos (starEach [] X.env)).any (·.1) || (backToKw pos (keywordEach kws X.env)).any (·.1.isNone)) = false := by rfl) :
    EZ C X (.Call (.Name x p) [] kws pos) (zMakeK C c 0 ks.length W dds l zNil zk) := by
  obtain ⟨u, k1, k2⟩ := hk.ex
  obtain ⟨its, hb⟩ := hb
  exact ⟨_, pe_makeK0 M F hr hg hm hb pass0 (E := E0) k1 hall hks hdb hpl, ref_makeK (n := 0) (fun S A σ H Γ Δ P Q hs hc hz k => k [] [] A H Δ (Ext.refl _ _) hc .nil hz) k2 hdd⟩
theorem ez_makeD {c : Nat} (M : Mk X.K (C.adr c) f) (F : FnOk X.prog X.w X.K X.mg X.base CX0 k f fd ps (SpZ X.K C W)) (hr : Room (k + 1) X.A) (hm : X.mg x = some (.ref (C.adr c))) (hb : ∃ ts : List Value, Vals dvs ts ∧ Binds X.K fd ps ts) (hdd : ∀ S A H, RepL X.K C S A H dvs dds)
    (ha : AZ C X (e :: es) za) (hg : Gl X x := by rfl) (hdb : (x == ("__debug__" : Str)) = false := by decide) (he : starEach (e :: es) X.env = (false, eval e X.env) :: starEach es X.env := by rfl) (hpl : (backTo pos (starEach es X.env)).any (·.1) = false := by rfl) :
    EZ C X (.Call (.Name x p) (e :: es) [] pos) (zMakeF C c W dds za) := by
  obtain ⟨ts, h1, h2⟩ := hb
  exact ez_makeF M F hr hm h2 h1 hdd ha hg hdb he hpl
/-- t[lo:hi], not the whole of it -/
def zSlT (z : ZE) (zl zh : ZO) : ZE := fun Γ Δ P => z Γ Δ fun x Δ1 => zl Γ Δ1 fun l Δ2 => zh Γ Δ2 fun u Δ3 => ∃ ds, x = .tup ds ∧ ¬ (HT.sIx ds.length 0 l = 0 ∧ HT.sIx ds.length ds.length u = ds.length) ∧ P (.tup (Z.cutD ds l u)) Δ3
theorem ez_slT {a : Expr} {lo hi : Option Expr} {z : ZE} {zl zh : ZO} {p2 : Pos} (ha : EZ C X a z) (hl : OZ C X lo zl) (hh : OZ C X hi zh) : EZ C X (.Subscript a (.Slice lo hi none p2) pos) (zSlT z zl zh) := by
  obtain ⟨t, a1, a2⟩ := ha.ex
  obtain ⟨tl, l1, l2⟩ := hl.ex
  obtain ⟨th, u1, u2⟩ := hh.ex
  refine ⟨_, pe_slice sl_tup a1 l1 u1, fun S A σ H Γ Δ P Q hs hc hz k => a2 S A σ H Γ Δ _ _ hs hc hz fun x dx A1 H1 Δ1 e1 c1 r1 hz1 => ?_⟩
  refine l2 S A1 σ H1 Γ Δ1 _ _ (hs.ext e1) c1 hz1 fun l A2 H2 Δ2 e2 c2 hz2 => u2 S A2 σ H2 Γ Δ2 _ _ ((hs.ext e1).ext e2) c2 hz2 fun u A3 H3 Δ3 e3 c3 hz3 => ?_
  obtain ⟨ds, rfl, hw, p⟩ := hz3
  have r3 := (r1.ext e2).ext e3
  cases r3 with
  | tup g1 g2 g3 g4 =>
    rename_i a xs
    refine ⟨a, xs, rfl, SqT.of g1, by rw [g4.length]; exact hw, fun q hq => ?_⟩
    have hcut : RepL X.K C S A3 H3 (cutV xs l u) (Z.cutD ds l u) := by
      unfold cutV Z.cutD
      rw [g4.length]
      exact (g4.drop _).take _
    have e4 := Ext.new (A := A3) (o := .tup (cutV xs l u)) hq
    exact k _ _ A3 _ Δ3 (((e1.trans e2).trans e3).trans e4) (c3.new hq) (.tup upd_same (c3.fresh hq) (c3.aside hq) (hcut.ext e4)) p
end
/-! ### a new list that the caller never changes, made while cells were written -/
def blwO (m : Nat) : O → Bool
  | .lst ds => belowL m ds
  | .ins _ fs => belowL m (fs.map (·.2))
  | .dct _ ds => belowL m ds
theorem Cells.freezeM {K : PySem.W.Frag} {C : CI} {S A : List Addr} {H H0 : Hp} {Δ Δ1 : Store} {x : Addr} {es : List D} (c1 : Cells K C S A H0 Δ) (hc : Cells K C S (A ++ [x]) H (Δ1 ++ [.lst es])) (hl : Δ1.length = Δ.length)
    (hw : ∀ (n : Nat) (o : O), Δ1[n]? = some o → Δ[n]? = some o ∨ blwO Δ.length o = true) (hb : belowL A.length es = true) : Cells K C S A H Δ1 ∧ Rep K C S A H (.ref x) (.lst es) := by
  have lenΔ : A.length = Δ1.length := by rw [hl]; exact c1.len
  refine ⟨⟨lenΔ, c1.nd, c1.dj, hc.as, fun n a o h1 h2 => ?_⟩, ?_⟩
  · have hn : n < A.length := (List.getElem?_eq_some_iff.mp h1).1
    have q := hc.at_ n a o (by rw [List.getElem?_append_left hn]; exact h1) (by rw [List.getElem?_append_left (by rw [← lenΔ]; exact hn)]; exact h2)
    have hb2 : blwO A.length o = true := by
      rcases hw n o h2 with h | h
      · have q0 := c1.at_ n a o h1 h
        cases o with
        | lst ds =>
          obtain ⟨_, _, g3⟩ := q0
          exact RepL.blw ds g3
        | ins c fs =>
          obtain ⟨_, _, _, _, g4⟩ := q0
          exact RepL.blw _ g4
        | dct ks ds =>
          obtain ⟨_, _, _, g4⟩ := q0
          exact RepL.blw _ g4
      · rw [c1.len]; exact h
    cases o with
    | lst ds =>
      obtain ⟨xs, g1, g2⟩ := q
      exact ⟨xs, g1, RepL.drop_ ds hb2 g2⟩
    | ins c fs =>
      obtain ⟨dx, xs, g1, g2, g3⟩ := q
      exact ⟨dx, xs, g1, g2, RepL.drop_ _ hb2 g3⟩
    | dct ks ds =>
      obtain ⟨xs, g1, g2, g3⟩ := q
      exact ⟨xs, g1, g2, RepL.drop_ _ hb2 g3⟩
  · have q := hc.at_ A.length x (.lst es) (by rw [List.getElem?_append_right (Nat.le_refl _), Nat.sub_self] <;> rfl) (by rw [lenΔ, List.getElem?_append_right (Nat.le_refl _), Nat.sub_self] <;> rfl)
    obtain ⟨xs, g1, g2⟩ := q
    have hx : x ∉ A := fun h => by
      have := List.nodup_append.mp hc.nd
      exact this.2.2 x h x (by simp) rfl
    exact .lst g1 hx (hc.dj x (by simp)) (RepL.drop_ es hb g2)
def frzM (W : ZRC) : ZRC := fun ds Δ P => W ds Δ fun d Δ' => ∃ es Δ1, d = .cell Δ1.length ∧ Δ' = Δ1 ++ [.lst es] ∧ Δ1.length = Δ.length ∧ (∀ (n : Nat) (o : O), Δ1[n]? = some o → Δ[n]? = some o ∨ blwO Δ.length o = true) ∧ belowL Δ.length es = true ∧ P (.lst es) Δ1
section
variable {P : Program} {w : World} {K : PySem.W.Frag} {mg : Str → Option Value} {base : Heap} {C : CI} {k : Nat} {f : Addr} {fd : FuncData} {ps : List Str} {W : ZRC}
theorem sp_frzM {vs : List V} {H : Hp} {Q : VK} {E : XK} (h : SpZ K C (frzM W) vs H Q E) : SpZ K C W vs H Q E := by
  obtain ⟨S, A, Δ, ds, P, r, hc, hw, kk⟩ := h
  refine ⟨S, A, Δ, ds, _, r, hc, hw, fun v d A' H' Δ' e c r' q => ?_⟩
  obtain ⟨es, Δ1, rfl, rfl, hl, hch, hb, p⟩ := q
  cases r' with
  | cell g =>
    rename_i x
    have hA' : A' = A ++ [x] := by
      obtain ⟨B, hB, _⟩ := e.pre
      have hlen := c.len
      have hl1 : ([O.lst es] : List O).length = 1 := rfl
      rw [hB, List.length_append, List.length_append, hc.len, hl1, hl] at hlen
      have hB1 : B.length = 1 := by omega
      obtain ⟨b, hb1⟩ := List.length_eq_one_iff.mp hB1
      rw [hB, hb1, hl, ← hc.len, List.getElem?_append_right (Nat.le_refl _), Nat.sub_self] at g
      cases g
      rw [hB, hb1]
    subst hA'
    obtain ⟨c5, r5⟩ := hc.freezeM c hl hch (by rw [hc.len]; exact hb)
    exact kk _ _ A H' Δ1 ⟨⟨[], by simp, by simp⟩, fun a o h1 h2 => e.keep a o h1 h2, e.trk⟩ c5 r5 p
theorem fn_frzM (F : FnOk P w K mg base CX0 k f fd ps (SpZ K C W)) : FnOk P w K mg base CX0 k f fd ps (SpZ K C (frzM W)) := F.imp fun _ _ _ _ h => sp_frzM h
end
end Z

/-! Z11: a comprehension with two generators. -/
namespace Z
open PySem PySem.Spec PyProof.Rows L2
/-- the outer items; the inner ones go on with the same new list -/
def comp2Z (zg : ZG) (zt : ZT) (zi1 : ZI) (zg1 : ZG) (zt1 : ZT) (ze : ZE) (vs1 : List Nat) (Γ0 : Env) (P : D → Store → Prop) : List D → List D → Store → Prop
  | [], acc, Δ => P (.lst acc) Δ
  | x :: xs, acc, Δ => zg x Γ0 Δ fun Γ2 Δ2 => zt Γ2 Δ2 fun b Δ3 => (b = true → zi1 Γ2 Δ3 fun items Δ4 => compZ zg1 zt1 ze (wipeZ Γ2 vs1) (fun d Δ' => ∃ acc', d = .lst acc' ∧ comp2Z zg zt zi1 zg1 zt1 ze vs1 Γ0 P xs acc' Δ') items acc Δ4) ∧ (b = false → comp2Z zg zt zi1 zg1 zt1 ze vs1 Γ0 P xs acc Δ3)
def zLc2 (zi : ZI) (zg : ZG) (zt : ZT) (zi1 : ZI) (zg1 : ZG) (zt1 : ZT) (ze : ZE) (vs vs1 : List Nat) : ZE := fun Γ Δ P => zi Γ Δ fun items Δ1 => comp2Z zg zt zi1 zg1 zt1 ze vs1 (wipeZ Γ vs) P items [] Δ1
section
variable {K : PySem.W.Frag} {C : CI} {S : List Addr} {q : Addr}
/-- the new list at q grows -/
theorem grow_mo {A : List Addr} {H : Hp} {l : List V} : Mo (q :: S) A H (q :: S) A (upd H q (.lst l)) := ⟨⟨[], by simp, by simp⟩, fun _ h => .inl h, fun a o _ h2 h3 => by
  rw [upd_ne (fun h => h2 (by rw [h]; exact List.mem_cons_self))]; exact h3⟩
theorem grow_cells {A : List Addr} {H : Hp} {Δ : Store} {l : List V} (c : Cells K C (q :: S) A H Δ) : Cells K C (q :: S) A (upd H q (.lst l)) Δ := by
  have hq : q ∉ A := fun h => c.dj q h List.mem_cons_self
  refine ⟨c.len, c.nd, c.dj, fun a ha h => ?_, fun n a o h1 h2 => (c.at_ n a o h1 h2).mono grow_mo fun u h => ?_⟩
  · by_cases hb : a = q
    · subst hb; rw [upd_same] at h; cases h
    · rw [upd_ne hb] at h; exact c.as a ha h
  · rw [upd_ne (fun hb => hq (by rw [← hb]; exact List.mem_of_getElem? h1))]; exact h
/-- what the new list at q is, all along -/
structure At (K : PySem.W.Frag) (C : CI) (S : List Addr) (q : Addr) (A0 : List Addr) (H0 : Hp) (A : List Addr) (H : Hp) (Δ : Store) (acc : List D) : Prop where
  mo : Mo (q :: S) A0 H0 (q :: S) A H
  trk : ∀ a, H a = none → H0 a = none
  kp : ∀ a o, a ∉ A0 → a ≠ q → H0 a = some o → H a = some o
  cells : Cells K C (q :: S) A H Δ
  lst : ∃ accV, H q = some (.lst accV) ∧ RepL K C (q :: S) A H accV acc
theorem At.ext {A0 A A' : List Addr} {H0 H H' : Hp} {Δ Δ' : Store} {acc : List D} (h : At K C S q A0 H0 A H Δ acc) (e : Ext A H A' H') (c : Cells K C (q :: S) A' H' Δ') : At K C S q A0 H0 A' H' Δ' acc := by
  obtain ⟨accV, h1, h2⟩ := h.lst
  have hq : q ∉ A := fun z => h.cells.dj q z List.mem_cons_self
  obtain ⟨B, hB, nB⟩ := h.mo.pre
  obtain ⟨B', hB', nB'⟩ := e.pre
  have hin : ∀ a o, a ∈ A → H0 a = some o → a ∈ A0 := fun a o ha ho => by
    rw [hB] at ha
    rcases List.mem_append.mp ha with ha | ha
    · exact ha
    · rw [nB a ha] at ho; cases ho
  refine ⟨⟨⟨B ++ B', by rw [hB', hB, List.append_assoc], fun b hb => ?_⟩, fun _ z => .inl z, fun a o g1 g2 g3 => ?_⟩, fun a z => h.trk a (e.trk a z), fun a o g1 g2 g3 => ?_, c, accV, e.keep q _ hq h1, h2.ext e⟩
  · rcases List.mem_append.mp hb with hb | hb
    · exact nB b hb
    · exact h.trk b (nB' b hb)
  · exact e.keep a o (fun z => g1 (hin a o z g3)) (h.mo.keep a o g1 g2 g3)
  · exact e.keep a o (fun z => g1 (hin a o z g3)) (h.kp a o g1 g2 g3)
theorem At.grow {A0 A : List Addr} {H0 H : Hp} {Δ : Store} {acc : List D} {accV : List V} {y : V} {d : D} (h : At K C S q A0 H0 A H Δ acc) (h1 : H q = some (.lst accV)) (h2 : RepL K C (q :: S) A H accV acc) (r : Rep K C (q :: S) A H y d) : At K C S q A0 H0 A (upd H q (.lst (accV ++ [y]))) Δ (acc ++ [d]) := by
  refine ⟨⟨h.mo.pre, fun _ z => .inl z, fun a o g1 g2 g3 => ?_⟩, fun a z => ?_, fun a o g1 g2 g3 => ?_, grow_cells h.cells, _, upd_same, (RepL.append h2 (.cons r .nil)).mono grow_mo _⟩
  · rw [upd_ne (fun z => g2 (by rw [z]; exact List.mem_cons_self))]; exact h.mo.keep a o g1 g2 g3
  · by_cases hb : a = q
    · subst hb; rw [upd_same] at z; cases z
    · rw [upd_ne hb] at z; exact h.trk a z
  · rw [upd_ne g2]; exact h.kp a o g1 g2 g3
theorem At.here {A : List Addr} {H : Hp} {Δ : Store} {acc : List D} (c : Cells K C (q :: S) A H Δ) (l : ∃ accV, H q = some (.lst accV) ∧ RepL K C (q :: S) A H accV acc) : At K C S q A H A H Δ acc :=
  ⟨⟨⟨[], by simp, by simp⟩, fun _ z => .inl z, fun _ _ _ _ h => h⟩, fun _ h => h, fun _ _ _ _ h => h, c, l⟩
theorem drop_cons {α : Type} {l : List α} {i : Nat} {d : α} (h : l[i]? = some d) : l.drop i = d :: l.drop (i + 1) := by
  obtain ⟨hl, q⟩ := List.getElem?_eq_some_iff.mp h
  rw [← q]
  exact List.drop_eq_getElem_cons hl
theorem lc_in {wi1 : TI} {g1 : TG} {tt1 : TT} {te : TE} {zi1 : ZI} {zg1 : ZG} {zt1 : ZT} {ze : ZE} {vs1 : List Nat} (hi : RefI K C wi1 zi1) (hg : RefG K C g1 zg1) (ho : Own g1 vs1) (ht : RefT K C tt1 zt1) (he : RefE K C te ze)
    {A0 A : List Addr} {H0 H : Hp} {σ : L2.St} {Γ : Env} {Δ : Store} {acc : List D} (hs : Slots K C (q :: S) A H σ Γ) (h : At K C S q A0 H0 A H Δ acc) {R : D → Store → Prop} (p : zi1 Γ Δ fun items Δ' => compZ zg1 zt1 ze (wipeZ Γ vs1) R items acc Δ') {Nx : Hp → Prop}
    (hd : ∀ A' H' Δ' acc', At K C S q A0 H0 A' H' Δ' acc' → R (.lst acc') Δ' → Nx H') :
    wi1 σ H fun J1 H4 => ∃ W1 : Nat → Nat → Hp → Prop, (∃ m, W1 0 m H4) ∧ ∀ j k H, W1 j k H → (J1.stop j H ∧ Nx H) ∨ (J1.go j H ∧ ∃ Nx1 : Hp → Prop, (∀ H', Nx1 H' → ∃ k', k' < k ∧ W1 (j + 1) k' H') ∧ ∀ x H', J1.yld j H x H' → g1 x (wipe σ vs1) H' fun σ3 H5 => wipe σ3 vs1 = wipe σ vs1 ∧ tt1 σ3 H5 fun b H6 =>
      if b = true then te σ3 H6 fun y H7 => ∃ acc, H7 q = some (.lst acc) ∧ acc.length < sizeLine ∧ Nx1 (upd H7 q (.lst (acc ++ [y]))) else Nx1 H6) := by
  refine hi (q :: S) A σ H Γ Δ _ _ hs h.cells p fun J n G Y items A1 H1 Δ1 e1 c1 p1 hn w hG hY => ?_
  have h1 := h.ext e1 c1
  have s1 := hs.ext e1
  refine ⟨fun j k H2 => k = n - j ∧ j ≤ n ∧ ∃ A2 Δ2 acc2, At K C S q A0 H0 A2 H2 Δ2 acc2 ∧ At K C S q A1 H1 A2 H2 Δ2 acc2 ∧ compZ zg1 zt1 ze (wipeZ Γ vs1) R (items.drop j) acc2 Δ2, ⟨n, by simp, Nat.zero_le _, A1, Δ1, acc, h1, .here c1 h1.lst, p1⟩, ?_⟩
  rintro j k H2 ⟨rfl, hj, A2, Δ2, acc2, a0, a1, p2⟩
  have gg := hG (q :: S) A2 H2 a1.mo
  by_cases hlt : j < n
  · refine .inr ⟨w.goes j H2 hlt gg, fun H' => ∃ A2 Δ2 acc2, At K C S q A0 H0 A2 H' Δ2 acc2 ∧ At K C S q A1 H1 A2 H' Δ2 acc2 ∧ compZ zg1 zt1 ze (wipeZ Γ vs1) R (items.drop (j + 1)) acc2 Δ2, fun H' p' => ⟨n - (j + 1), by omega, rfl, hlt, p'⟩, fun x H3 y => ?_⟩
    obtain ⟨d, q1, q2, q3⟩ := hY (q :: S) A2 H2 Δ2 j x H3 hlt a1.mo a0.cells (w.yields j H2 x H3 hlt gg y)
    rw [drop_cons q1] at p2
    have e3 : Ext A2 H2 A2 H3 := Ext.kept q2
    have c3 := a0.cells.kept q2
    have s3 : Slots K C (q :: S) A2 H3 (wipe σ vs1) (wipeZ Γ vs1) := ((s1.mono a1.mo).ext e3).wipe vs1
    have fin : g1 x (wipe σ vs1) H3 fun σ2 H4 => wipe σ2 vs1 = wipe (wipe σ vs1) vs1 ∧ tt1 σ2 H4 fun b H5 =>
        if b = true then te σ2 H5 fun y H6 => ∃ acc, H6 q = some (.lst acc) ∧ acc.length < sizeLine ∧ ∃ A2 Δ2 acc2, At K C S q A0 H0 A2 (upd H6 q (.lst (acc ++ [y]))) Δ2 acc2 ∧ At K C S q A1 H1 A2 (upd H6 q (.lst (acc ++ [y]))) Δ2 acc2 ∧ compZ zg1 zt1 ze (wipeZ Γ vs1) R (items.drop (j + 1)) acc2 Δ2
        else ∃ A2 Δ2 acc2, At K C S q A0 H0 A2 H5 Δ2 acc2 ∧ At K C S q A1 H1 A2 H5 Δ2 acc2 ∧ compZ zg1 zt1 ze (wipeZ Γ vs1) R (items.drop (j + 1)) acc2 Δ2 := by
      refine ho _ _ _ _ (hg (q :: S) A2 (wipe σ vs1) H3 (wipeZ Γ vs1) Δ2 x d _ _ s3 c3 q3 p2 fun σ4 A4 H4 Γ4 Δ4 e4 s4 c4 p4 => ?_)
      refine ht (q :: S) A4 σ4 H4 Γ4 Δ4 _ _ s4 c4 p4 fun b A5 H5 Δ5 e5 c5 p5 => ?_
      have b0 := ((a0.ext e3 c3).ext e4 c4).ext e5 c5
      have b1 := ((a1.ext e3 c3).ext e4 c4).ext e5 c5
      cases b with
      | false => exact iteF ⟨A5, Δ5, acc2, b0, b1, p5.2 rfl⟩
      | true =>
        refine iteT (he (q :: S) A5 σ4 H5 Γ4 Δ5 _ _ (s4.ext e5) c5 (p5.1 rfl) fun y dy A6 H6 Δ6 e6 c6 r6 p6 => ?_)
        have d0 := b0.ext e6 c6
        have d1 := b1.ext e6 c6
        obtain ⟨accV, l1, l2⟩ := d0.lst
        exact ⟨accV, l1, lt_line (by rw [l2.length]; exact p6.1), A6, Δ6, acc2 ++ [dy], d0.grow l1 l2 r6, d1.grow l1 l2 r6, p6.2⟩
    rw [wipe_wipe] at fin
    exact fin
  · have e : j = n := by omega
    subst e
    rw [hn, List.drop_length] at p2
    exact .inl ⟨w.stops H2 gg, hd A2 H2 Δ2 acc2 a0 p2⟩
theorem ref_lc2 {wi wi1 : TI} {g g1 : TG} {tt tt1 : TT} {te : TE} {vs vs1 : List Nat} {zi zi1 : ZI} {zg zg1 : ZG} {zt zt1 : ZT} {ze : ZE} (hi : RefI K C wi zi) (hg : RefG K C g zg) (ho : Own g vs) (ht : RefT K C tt zt) (hi1 : RefI K C wi1 zi1) (hg1 : RefG K C g1 zg1) (ho1 : Own g1 vs1) (ht1 : RefT K C tt1 zt1) (he : RefE K C te ze) :
    RefE K C (tLc2 wi g tt wi1 g1 tt1 te vs vs1) (zLc2 zi zg zt zi1 zg1 zt1 ze vs vs1) := fun S A σ H Γ Δ P Q hs hc hz k => hi S A σ H Γ Δ _ _ hs hc hz fun J n G Y items A1 H1 Δ1 e1 c1 p hn w hG hY q hq => by
  have s1 := hs.ext e1
  have mo0 : Mo S A1 H1 (q :: S) A1 (upd H1 q (.lst [])) := ⟨⟨[], by simp, by simp⟩, fun b hb => by
    rcases List.mem_cons.mp hb with rfl | hb
    · exact .inr hq
    · exact .inl hb, fun a o _ _ h => by rw [upd_ne (ne_of_none h hq)]; exact h⟩
  have cells0 : Cells K C (q :: S) A1 (upd H1 q (.lst [])) Δ1 := by
    refine ⟨c1.len, c1.nd, fun a ha hb => ?_, fun a ha h => ?_, fun n a o h1 h2 => (c1.at_ n a o h1 h2).mono mo0 fun u h => by rw [upd_ne (ne_of_none h hq)]; exact h⟩
    · rcases List.mem_cons.mp hb with rfl | hb
      · exact c1.fresh hq ha
      · exact c1.dj a ha hb
    · rcases List.mem_cons.mp ha with rfl | ha
      · rw [upd_same] at h; cases h
      · exact c1.as a ha ((Ext.new (A := A1) hq).trk a h)
  have mo2 : ∀ {A2 : List Addr} {H2 : Hp} {Δ2 : Store} {acc : List D}, At K C S q A1 (upd H1 q (.lst [])) A2 H2 Δ2 acc → Mo S A1 H1 (q :: S) A2 H2 := fun {A2 H2 Δ2 acc} a => by
    obtain ⟨B, hB, nB⟩ := a.mo.pre
    refine ⟨⟨B, hB, fun b hb => (Ext.new (A := A1) hq).trk b (nB b hb)⟩, mo0.sub, fun x o h1 h2 h3 => ?_⟩
    have hx := ne_of_none h3 hq
    exact a.kp x o h1 hx (by rw [upd_ne hx]; exact h3)
  have ext2 : ∀ {A2 : List Addr} {H2 : Hp} {Δ2 : Store} {acc : List D}, At K C S q A1 (upd H1 q (.lst [])) A2 H2 Δ2 acc → Ext A1 H1 A2 H2 := fun {A2 H2 Δ2 acc} a => by
    obtain ⟨B, hB, nB⟩ := a.mo.pre
    refine ⟨⟨B, hB, fun b hb => (Ext.new (A := A1) hq).trk b (nB b hb)⟩, fun x o h1 h3 => ?_, fun x h => (Ext.new (A := A1) hq).trk x (a.trk x h)⟩
    have hx := ne_of_none h3 hq
    exact a.kp x o h1 hx (by rw [upd_ne hx]; exact h3)
  refine ⟨fun i m H2 => m = n - i ∧ i ≤ n ∧ ∃ A2 Δ2 acc, At K C S q A1 (upd H1 q (.lst [])) A2 H2 Δ2 acc ∧ comp2Z zg zt zi1 zg1 zt1 ze vs1 (wipeZ Γ vs) P (items.drop i) acc Δ2, ⟨n, by simp, Nat.zero_le _, A1, Δ1, [], .here cells0 ⟨[], upd_same, .nil⟩, p⟩, ?_⟩
  rintro i m H2 ⟨rfl, hin, A2, Δ2, acc, a0, p2⟩
  have gg := hG (q :: S) A2 H2 (mo2 a0)
  by_cases hlt : i < n
  · refine .inr ⟨w.goes i H2 hlt gg, fun H' => ∃ A2 Δ2 acc, At K C S q A1 (upd H1 q (.lst [])) A2 H' Δ2 acc ∧ comp2Z zg zt zi1 zg1 zt1 ze vs1 (wipeZ Γ vs) P (items.drop (i + 1)) acc Δ2, fun H' p' => ⟨n - (i + 1), by omega, rfl, hlt, p'⟩, fun x H3 y => ?_⟩
    obtain ⟨d, q1, q2, q3⟩ := hY (q :: S) A2 H2 Δ2 i x H3 hlt (mo2 a0) a0.cells (w.yields i H2 x H3 hlt gg y)
    rw [drop_cons q1] at p2
    have e3 : Ext A2 H2 A2 H3 := Ext.kept q2
    have c3 := a0.cells.kept q2
    have s3 : Slots K C (q :: S) A2 H3 (wipe σ vs) (wipeZ Γ vs) := ((s1.mono (mo2 a0)).ext e3).wipe vs
    have h5 := hg (q :: S) A2 (wipe σ vs) H3 (wipeZ Γ vs) Δ2 x d _ (fun σ4 H4 => tt σ4 H4 fun b H5 => if b = true then wi1 σ4 H5 fun J1 H4 => ∃ W1 : Nat → Nat → Hp → Prop, (∃ m, W1 0 m H4) ∧ ∀ j k H, W1 j k H → (J1.stop j H ∧ ∃ A2 Δ2 acc, At K C S q A1 (upd H1 q (.lst [])) A2 H Δ2 acc ∧ comp2Z zg zt zi1 zg1 zt1 ze vs1 (wipeZ Γ vs) P (items.drop (i + 1)) acc Δ2) ∨ (J1.go j H ∧ ∃ Nx1 : Hp → Prop, (∀ H', Nx1 H' → ∃ k', k' < k ∧ W1 (j + 1) k' H') ∧ ∀ x H', J1.yld j H x H' → g1 x (wipe σ4 vs1) H' fun σ3 H5 => wipe σ3 vs1 = wipe σ4 vs1 ∧ tt1 σ3 H5 fun b H6 =>
      if b = true then te σ3 H6 fun y H7 => ∃ acc, H7 q = some (.lst acc) ∧ acc.length < sizeLine ∧ Nx1 (upd H7 q (.lst (acc ++ [y]))) else Nx1 H6) else ∃ A2 Δ2 acc, At K C S q A1 (upd H1 q (.lst [])) A2 H5 Δ2 acc ∧ comp2Z zg zt zi1 zg1 zt1 ze vs1 (wipeZ Γ vs) P (items.drop (i + 1)) acc Δ2) s3 c3 q3 p2 fun σ4 A4 H4 Γ4 Δ4 e4 s4 c4 p4 => by
      refine ht (q :: S) A4 σ4 H4 Γ4 Δ4 _ _ s4 c4 p4 fun b A5 H5 Δ5 e5 c5 p5 => ?_
      have b0 := ((a0.ext e3 c3).ext e4 c4).ext e5 c5
      cases b with
      | false => exact iteF ⟨A5, Δ5, acc, b0, p5.2 rfl⟩
      | true => exact iteT (lc_in hi1 hg1 ho1 ht1 he (s4.ext e5) b0 (p5.1 rfl) fun A' H' Δ' acc' a' r' => by
          obtain ⟨acc2, e, r'⟩ := r'
          cases e
          exact ⟨A', Δ', acc', a', r'⟩)
    have fin := ho _ _ _ _ h5
    rw [wipe_wipe] at fin
    exact fin
  · have e : i = n := by omega
    subst e
    rw [hn, List.drop_length] at p2
    refine .inl ⟨w.stops H2 gg, ?_⟩
    obtain ⟨accV, l1, l2⟩ := a0.lst
    have c2 := a0.cells
    have hq2 : q ∉ A2 := fun h => c2.dj q h List.mem_cons_self
    have mo8 : Mo (q :: S) A2 H2 S A2 H2 := ⟨⟨[], by simp, by simp⟩, fun b hb => .inl (List.mem_cons_of_mem _ hb), fun _ _ _ _ h => h⟩
    exact k _ _ A2 H2 Δ2 (e1.trans (ext2 a0)) ⟨c2.len, c2.nd, fun a ha hb => c2.dj a ha (List.mem_cons_of_mem _ hb), fun a ha => c2.as a (List.mem_cons_of_mem _ ha), fun n a o h1 h2 => (c2.at_ n a o h1 h2).mono mo8 fun _ h => h⟩
      (.lst l1 hq2 (c1.aside hq) (RepL.mono mo8 _ l2)) p2
end
def upI (K : PySem.W.Frag) (C : CI) (zi : ZI) : TI := fun σ H R => ∃ S A Γ Δ P, Slots K C S A H σ Γ ∧ Cells K C S A H Δ ∧ zi Γ Δ P ∧
  (∀ (J : It) (n : Nat) (G : Hp → Prop) (Y : Nat → Hp → V → Hp → Prop) (items : List D) (A' : List Addr) (H' : Hp) (Δ' : Store), Ext A H A' H' → Cells K C S A' H' Δ' → P items Δ' → n = items.length → Walk J n G Y →
    (∀ S2 A2 H2, Mo S A' H' S2 A2 H2 → G H2) →
    (∀ S2 A2 H2 Δ2 i x H3, i < n → Mo S A' H' S2 A2 H2 → Cells K C S2 A2 H2 Δ2 → Y i H2 x H3 → ∃ d, items[i]? = some d ∧ (∀ a o, H2 a = some o → H3 a = some o) ∧ Rep K C S2 A2 H3 x d) → R J H')
theorem ref_upI {K : PySem.W.Frag} {C : CI} {zi : ZI} : RefI K C (upI K C zi) zi := fun S A σ H Γ Δ P R hs hc hz k => ⟨S, A, Γ, Δ, P, hs, hc, hz, k⟩
theorem IZ.up {C : CI} {X : Cx} {tg iter : Expr} {zi : ZI} (h : IZ C X tg iter zi) : PI X tg iter (upI X.K C zi) := by
  obtain ⟨t, h1, h2⟩ := h.ex
  refine ⟨fun pins s σ H R I q => h1.run pins s σ H R I ?_⟩
  obtain ⟨S, A, Γ, Δ, P, hs, hc, hz, k⟩ := q
  exact h2 S A σ H Γ Δ P R hs hc hz k
section
variable {C : CI} {X : Cx}
/-- [elt for tg in iter if .. for tg1 in iter1 if ..] -/
theorem ez_lc2 {elt tg iter tg1 iter1 : Expr} {ifs ifs1 : List Expr} {scope : Scope} {own : List (Str × Nat)} {vs1 : List Nat} {pos : Pos} {zi zi1 : ZI} {g g1 : TG} {zg zg1 : ZG} {zt zt1 : ZT} {ze : ZE} (hN : X.N.Nodup) (hi : IZ C X tg iter zi) (ok : BlkOk X.N X.env.scope scope own) (ho : Own g (own.map (·.2))) (ho1 : Own g1 vs1) (hv : ∀ i ∈ vs1, i ∈ own.map (·.2))
    (hr : RefG X.K C g zg) (hr1 : RefG X.K C g1 zg1)
    (hg : ∀ (s : Shared) (H : Hp) (Ca : Addr) (cl : List (Str × Addr)) (fp : List Addr), PG (X.blk s H scope (compEnvC scope cl Ca X.env) fp) tg g)
    (ht : ∀ (s : Shared) (H : Hp) (Ca : Addr) (cl : List (Str × Addr)) (fp : List Addr), TsZ C (X.blk s H scope (compEnvC scope cl Ca X.env) fp) ifs zt)
    (hi1 : ∀ (s : Shared) (H : Hp) (Ca : Addr) (cl : List (Str × Addr)) (fp : List Addr), IZ C (X.blk s H scope (compEnvC scope cl Ca X.env) fp) tg1 iter1 zi1)
    (hg1 : ∀ (s : Shared) (H : Hp) (Ca : Addr) (cl : List (Str × Addr)) (fp : List Addr), PG (X.blk s H scope (compEnvC scope cl Ca X.env) fp) tg1 g1)
    (ht1 : ∀ (s : Shared) (H : Hp) (Ca : Addr) (cl : List (Str × Addr)) (fp : List Addr), TsZ C (X.blk s H scope (compEnvC scope cl Ca X.env) fp) ifs1 zt1)
    (he : ∀ (s : Shared) (H : Hp) (Ca : Addr) (cl : List (Str × Addr)) (fp : List Addr), EZ C (X.blk s H scope (compEnvC scope cl Ca X.env) fp) elt ze)
    (hc : X.calm = true := by rfl) (hs : ∀ x, foldedSetIterable iter X.env x = pure x := by intro _; rfl) (hs1 : ∀ env x, foldedSetIterable iter1 env x = pure x := by intro _ _; rfl) :
    EZ C X (.ListComp elt [⟨tg, iter, ifs, 0⟩, ⟨tg1, iter1, ifs1, 0⟩] scope pos) (zLc2 zi zg zt zi1 zg1 zt1 ze (own.map (·.2)) vs1) := by
  obtain ⟨wi, i1, i2⟩ := hi.ex
  exact ⟨_, pe_lc2 hc hN i1 ok hv hg (fun s H Ca cl fp => (ht s H Ca cl fp).up) (fun s H Ca cl fp => (hi1 s H Ca cl fp).up) hg1 (fun s H Ca cl fp => (ht1 s H Ca cl fp).up) (fun s H Ca cl fp => (he s H Ca cl fp).up) hs hs1, ref_lc2 i2 hr ho ref_upT ref_upI hr1 ho1 ref_upT ref_up⟩
end
/-! ### math.lcm of great numbers -/
theorem lcm_lt {x y : Nat} (hx : x < 2 ^ 9000) (hy : y < 2 ^ 9000) : x.lcm y < 2 ^ 18000 := by
  have h : x.lcm y ≤ x * y := by
    unfold Nat.lcm
    exact Nat.div_le_self _ _
  refine Nat.lt_of_le_of_lt h ?_
  have e : 2 ^ 18000 = 2 ^ 9000 * 2 ^ 9000 := by rw [← Nat.pow_add]
  rw [e]
  exact Nat.mul_lt_mul'' hx hy
def rLcm : List V → Hp → VK → Prop := fun vs H Q => ∃ a b : Int, vs = [.int a, .int b] ∧ a.natAbs < 2 ^ 9000 ∧ b.natAbs < 2 ^ 9000 ∧ Q (.int ((Nat.lcm a.natAbs b.natAbs : Nat) : Int)) H
theorem cr_lcm {X : Cx} : CallR X (.builtin "math.lcm") rLcm := by
  intro pins s σ H vs us Q I r h
  obtain ⟨a, b, rfl, ha, hb, q⟩ := h
  obtain ⟨t, u, rfl⟩ := Vals.int2 r
  have p0 : 1 < 2 ^ 9000 := Nat.one_lt_two_pow (by decide)
  have lg : ∀ {n : Nat}, n < 2 ^ 9000 → ¬ n.log2 / 30 + 1 > 450 := fun {n} h => by
    have : n.log2 ≤ 8999 := PySem.W.mg_log (k := 8999) h
    omega
  have m1 : max 1 a.natAbs < 2 ^ 9000 := Nat.max_lt.mpr ⟨p0, ha⟩
  have m2 : max a.natAbs b.natAbs < 2 ^ 9000 := Nat.max_lt.mpr ⟨ha, hb⟩
  have e1 : Nat.lcm 1 a.natAbs = a.natAbs := Nat.lcm_one_left _
  have hsz : ((((Nat.lcm 1 a.natAbs).lcm b.natAbs : Nat) : Int)).natAbs.log2 < bitsLine := by
    rw [e1]
    have : (a.natAbs.lcm b.natAbs).log2 ≤ 17999 := PySem.W.mg_log (k := 17999) (lcm_lt ha hb)
    have e2 : ((a.natAbs.lcm b.natAbs : Nat) : Int).natAbs = a.natAbs.lcm b.natAbs := by omega
    rw [e2, bitsLine_eq]
    omega
  refine call_function_meets PySem.W.MGF.kind_lcm PySem.W.MGF.plain_lcm PySem.W.MGF.entry_lcm (PySem.W.MGF.args_lcm _ _) (PySem.W.mg_run_lcm a t b u (lg m1) (lg m2) hsz).meets ?_
  rw [e1]
  exact ⟨.int _, H, I.tok _, ⟨_, rfl⟩, q⟩
def zLcm : ZRC := fun ds Δ P => ∃ i j : Int, ds = [.int i, .int j] ∧ i.natAbs < 2 ^ 9000 ∧ j.natAbs < 2 ^ 9000 ∧ P (.int (Nat.lcm i.natAbs j.natAbs : Nat)) Δ
theorem cz_lcm {C : CI} {X : Cx} : CallZ C X (.builtin "math.lcm") zLcm := ⟨_, cr_lcm, fun S A H Δ xs ds P Q hc r hz k => by
  obtain ⟨i, j, rfl, hi, hj, q⟩ := hz
  obtain ⟨v, v', rfl, rv, rv'⟩ := two_rep r
  cases rv
  cases rv'
  exact ⟨i, j, rfl, hi, hj, k _ _ A H Δ (Ext.refl _ _) hc (.int _) q⟩⟩
/-! ### sorted({elt for tg in iter if ..}), elt an int: the reading (its rule over the heap is still to be written) -/
def zSrtS (zi : ZI) (zg : ZG) (zt : ZT) (ze : ZE) (vs : List Nat) : ZE := fun Γ Δ P => zLc zi zg zt ze vs Γ Δ fun d Δ1 => ∃ ns : List Int, d = .lst (ns.map D.int) ∧ ∀ ms : List Int, ms.Pairwise (· < ·) → (∀ k, k ∈ ms ↔ k ∈ ns) → P (.lst (ms.map D.int)) Δ1
end Z

/-! Z12: dicts whose keys are ints; sorted of such a dict, of any size; max with a default. -/
namespace Z
open PySem PySem.Spec PyProof.Rows L2
/-! ### max(xs, default=d) of a list that is not empty -/
section
variable {prog : Program} {w : World} {A : Around} {I : Addr} {fp wr : List Addr} {n : Nat} {Pv : Nat → Value → Prop} {St : Nat → Heap → Prop}
abbrev dfl (d : Value) : List (Str × Value) := [(Str.ofString "default", d)]
abbrev best (S : Addr) (vs : Array Value) (c : Nat) : Obj := { cls := .type "list", dict := none, data := .seq vs c, slots := #[] }
theorem mx_turn {R : Result → Shared → Prop} {d : Value} (W : Walks prog w A.in1 I fp wr n Pv St) (bt : Nat → Nat → Bool) (hcmp : CmpOf prog w A.in1 .Gt Pv bt) (B : Addr) (hB : B ∉ fp) :
    ∀ (k j : Nat) (s : Shared) (u : Value) (c : Nat), n = j + 1 + k → St (j + 1) s.heap → Pv (argBest bt j) u → s.heap.get? B = some (best B #[u, u] c) →
    (∀ v h' tk, Pv (argBest bt (n - 1)) v → (∀ b o, b ∉ wr → b ≠ B → s.heap.get? b = some o → h'.get? b = some o) → R (.ok (.ret v)) { s with heap := h', toks := tk }) →
    codeAny (model prog w) A (.builtin "max.loop" ⟨[.ref I, .none, .ref B], dfl d⟩) R s := by
  have hBw : B ∉ wr := fun h => hB (W.sub _ h)
  have nm : (toString "max" ++ toString ".loop" : String) = "max.loop" := by decide
  intro k
  induction k with
  | zero =>
    intro j s u c hk hst hu hS hR; have hin : j + 1 = n := by omega
    refine codeAny_builtin F.entry_max_loop ?_; rw [Around.under_plainId F.plain_max_loop _]
    show wpAny _ A.in1 (seqItems? (.ref B) >>= _) _ _ s; refine wpAny_bind (wpAny_seqItems hS rfl ?_)
    show wpAny _ A.in1 (tryCatch (pyNext (.ref I)) _ >>= _) _ _ s; refine wpAny_bind (wpAny_tryCatch (W.done s _ _ (hin ▸ hst) fun h' tk hk' => ?_))
    have hS' := hk' B _ hBw hS; show wpAny _ A.in1 (updateSeq B (fun _ => #[]) >>= _) _ _ _
    refine wpAny_bind (wpAny_updateSeq hS' rfl (wpAny_bind (wpAny_letGo (wpAny_pure ?_))))
    exact hR u _ tk (by rw [← hin]; exact hu) fun b o hbw hbB e => (Heap.get?_update_other _ _ (Ne.symm hbB)).trans (hk' b o hbw e)
  | succ k ih =>
    intro j s u c hk hst hu hS hR; have hlt : j + 1 < n := by omega
    refine codeAny_builtin F.entry_max_loop ?_; rw [Around.under_plainId F.plain_max_loop _]
    show wpAny _ A.in1 (seqItems? (.ref B) >>= _) _ _ s; refine wpAny_bind (wpAny_seqItems hS rfl ?_)
    show wpAny _ A.in1 (tryCatch (pyNext (.ref I)) _ >>= _) _ _ s; refine wpAny_bind (wpAny_tryCatch (W.item (j + 1) s _ _ hlt hst fun v h' tk hv hst' hk' => ?_))
    have hS' := hk' B _ hBw hS; show wpAny _ A.in1 (tryCatch (holding [v, v] (richCompare .Gt v u >>= _)) _ >>= _) _ _ _
    refine wpAny_bind (wpAny_tryCatch (wpAny_holding (wpAny_bind (hcmp (j + 1) (argBest bt j) v u _ _ _ hv hu ?_)))); refine wpAny_bind (wpAny_holding (wpAny_truthy_bool ?_)); refine wpAny_bind (wpAny_letGo (wpAny_pure ?_))
    cases hb : bt (j + 1) (argBest bt j) with
    | true =>
      simp only [if_true]
      refine wpAny_bind (wpAny_updateSeq hS' rfl (wpAny_bind (wpAny_letGo ?_)))
      rw [nm]
      refine wpAny_pure ⟨plainId_quiet F.plain_max_loop _, ih (j + 1) _ v _ (by omega) (W.frame _ _ _ hst' fun b hbf o e => (Heap.get?_update_other _ _ (fun h : B = b => hB (by rw [h]; exact hbf))).trans e) (by simp only [argBest, hb, if_true]; exact hv) (Heap.get?_update_self _ hS' rfl)
        fun v' h2 tk2 hv' hk2 => hR v' h2 tk2 hv' fun b o hbw hbB e => hk2 b o hbw hbB ((Heap.get?_update_other _ _ (Ne.symm hbB)).trans (hk' b o hbw e))⟩
    | false =>
      simp only [Bool.false_eq_true, if_false]
      refine wpAny_bind (wpAny_letGo ?_)
      rw [nm]
      exact wpAny_pure ⟨plainId_quiet F.plain_max_loop _, ih (j + 1) _ u c (by omega) hst' (by simp only [argBest, hb, Bool.false_eq_true, if_false]; exact hu) hS' fun v' h2 tk2 hv' hk2 =>
        hR v' h2 tk2 hv' fun b o hbw hbB e => hk2 b o hbw hbB (hk' b o hbw e)⟩
theorem mx_first {R : Result → Shared → Prop} {d : Value} (W : Walks prog w A.in1 I fp wr n Pv St) (bt : Nat → Nat → Bool) (hcmp : CmpOf prog w A.in1 .Gt Pv bt) (B : Addr) (hB : B ∉ fp) (hn : 0 < n) {s : Shared} {c : Nat} (hst : St 0 s.heap) (hS : s.heap.get? B = some (best B #[] c))
    (hR : ∀ v h' tk, Pv (argBest bt (n - 1)) v → (∀ b o, b ∉ wr → b ≠ B → s.heap.get? b = some o → h'.get? b = some o) → R (.ok (.ret v)) { s with heap := h', toks := tk }) :
    codeAny (model prog w) A (.builtin "max.loop" ⟨[.ref I, .none, .ref B], dfl d⟩) R s := by
  have hBw : B ∉ wr := fun h => hB (W.sub _ h)
  have nm : (toString "max" ++ toString ".loop" : String) = "max.loop" := by decide
  refine codeAny_builtin F.entry_max_loop ?_; rw [Around.under_plainId F.plain_max_loop _]
  show wpAny _ A.in1 (seqItems? (.ref B) >>= _) _ _ s; refine wpAny_bind (wpAny_seqItems hS rfl ?_)
  show wpAny _ A.in1 (tryCatch (pyNext (.ref I)) _ >>= _) _ _ s; refine wpAny_bind (wpAny_tryCatch (W.item 0 s _ _ hn hst fun v h' tk hv hst' hk' => ?_))
  have hS' := hk' B _ hBw hS; show wpAny _ A.in1 (updateSeq B (fun _ => #[v, v]) >>= _) _ _ _
  refine wpAny_bind (wpAny_updateSeq hS' rfl ?_)
  rw [nm]
  exact wpAny_pure ⟨plainId_quiet F.plain_max_loop _, mx_turn W bt hcmp B hB (n - 1) 0 _ v _ (by omega) (W.frame _ _ _ hst' fun b hbf o e => (Heap.get?_update_other _ _ (fun h : B = b => hB (by rw [h]; exact hbf))).trans e) hv (Heap.get?_update_self _ hS' rfl) fun v' h2 tk2 hv' hk2 =>
    hR v' h2 tk2 hv' fun b o hbw hbB e => hk2 b o hbw hbB ((Heap.get?_update_other _ _ (Ne.symm hbB)).trans (hk' b o hbw e))⟩
end
theorem args_maxD (a d : Value) : argsOk "max" ⟨[a], dfl d⟩ := by unfold argsOk; kernel_rfl
section
variable {prog : Program} {w : World} {A : Around} {E : Value → Shared → Prop} {s : Shared}
/-- what the walk of max's argument has to give -/
def MxIt (prog : Program) (w : World) (A : Around) (Q : Value → Shared → Prop) : Value → Shared → Prop := fun it s2 =>
  ∃ (I : Addr) (fp wr : List Addr) (n : Nat) (Pv : Nat → Value → Prop) (St : Nat → Heap → Prop) (bt : Nat → Nat → Bool), it = .ref I ∧ Walks prog w A.in1 I fp wr n Pv St ∧ St 0 s2.heap ∧ (∀ b ∈ fp, b < s2.heap.objs.size) ∧ 0 < n ∧
    CmpOf prog w A.in1 .Gt Pv bt ∧ ∀ v h' tk, Pv (argBest bt (n - 1)) v → (∀ b o, b ∉ wr → s2.heap.get? b = some o → h'.get? b = some o) → Q v { s2 with heap := h', toks := tk }
theorem call_treeK {id : String} {b : Builtin} {args : List Value} {kw : List (Str × Value)} {Q : Value → Shared → Prop} (hk : builtinKind id = none) (hp : plainId id = true) (hb : entryFor table id = some b) (ha : argsOk id ⟨args, kw⟩)
    (hc : wpAny (model prog w) A.in1 (b ⟨args, kw⟩) (fun fin s' => match fin with | .done f => (match (Except.ok f : Result) with | .ok (.ret v) => Q v s' | .ok _ => False | .error e => E e s') | .again c' => c'.quiet = true ∧ codeAny (model prog w) A c' (fun r s' => match r with | .ok (.ret v) => Q v s' | .ok _ => False | .error e => E e s') s') E s) :
    wpAny (model prog w) A (call (.builtin id) args kw) Q E s := by
  refine wpAny_call (codeAny_call_builtin hp hb ?_); simp only [checkBuiltinCall, hk]
  cases hsig : Manifest.signature? id with
  | none => exact wpAny_pure hc
  | some sig =>
    have h2 : Bind.checkArgs id sig ⟨args, kw⟩ = pure () := by simpa only [argsOk, hsig] using ha
    simp only [h2]; exact wpAny_pure hc
theorem mx_walk {x d : Value} {Q : Value → Shared → Prop} (h : wpAny (model prog w) A.in1 (pyIter x) (MxIt prog w A Q) E s) : wpAny (model prog w) A (call (.builtin "max") [x] (dfl d)) Q E s := by
  have nm : (toString "max" ++ toString ".loop" : String) = "max.loop" := by decide
  refine call_treeK F.kind_max F.plain_max F.entry_max (args_maxD _ _) ?_
  show wpAny _ A.in1 (Builtin.Builtins.bindParams "max" ["key", "default"] 0 ⟨[], dfl d⟩ >>= _) _ _ s
  refine wpAny_bind (wpAny_of_eq (show Builtin.Builtins.bindParams "max" ["key", "default"] 0 ⟨[], dfl d⟩ = pure [none, some d] from rfl) (wpAny_bind (wpAny_pure (wpAny_bind (wpAny_mono h (fun it s₂ h₂ => ?_) fun _ _ e => e)))))
  obtain ⟨I, fp, wr, n, Pv, St, bt, rfl, W, hst, hfp, hn, hcmp, hQ⟩ := h₂
  refine wpAny_bind (wpAny_newObj_type ?_)
  have hB : s₂.heap.objs.size ∉ fp := fun hm => Nat.lt_irrefl _ (hfp _ hm); rw [nm]
  refine wpAny_pure ⟨plainId_quiet F.plain_max_loop _, mx_first W bt hcmp s₂.heap.objs.size hB hn (W.frame _ _ _ hst fun b _ o e => Heap.get?_push_of_some _ e) (Heap.get?_push_size _ rfl) fun v h' tk hv hk => ?_⟩
  exact hQ v h' tk hv fun b o hbw e => hk b o hbw (Nat.ne_of_lt (Heap.lt_size e)) (Heap.get?_push_of_some _ e)
theorem mx_list {l : Addr} {its : List Value} {ns : List Int} {d : Value} {Q : Value → Shared → Prop} (hh : A.handled = none) (hl : s.heap.IsList l its.toArray) (hi : IntsAre its ns) (hne : 0 < ns.length)
    (h : ∀ h' tk M t', (∀ b o, s.heap.get? b = some o → h'.get? b = some o) → M ∈ ns → (∀ a, a ∈ ns → a ≤ M) → Q (.int M t') { s with heap := h', toks := tk }) : wpAny (model prog w) A (call (.builtin "max") [.ref l] (dfl d)) Q E s := by
  obtain ⟨xs, e⟩ := hi.allInts.items; have hn : numsOf (intItems xs).toList = ns := by rw [← e]; exact hi.numsOf
  rw [nums_intItems] at hn; subst hn; rw [e] at hl
  have hsz : 0 < xs.size := by simpa using hne
  refine mx_walk (iter_intList hl fun s₂ e st hfp hlI => ?_); subst e
  refine ⟨_, _, _, _, _, _, _, rfl, Walks.list (A := A.in1) hh _ l hlI (intItems xs), st, hfp, by simpa [intItems] using hsz, CmpOf.ints_gt (numAt xs) (fun _ _ => intItems_at), fun v h' tk hP hk => ?_⟩
  have hv : (intItems xs)[argBest (fun i j => decide (numAt xs i > numAt xs j)) (xs.size - 1)]? = some v := by simpa [intItems] using hP
  obtain ⟨t, rfl⟩ := intItems_at hv
  obtain ⟨h1, h2⟩ := argBest_gt (numAt xs) (xs.size - 1)
  refine h h' tk _ t (old_kept hk) ?_ fun a ha => ?_
  · rw [numAt_eq]; exact PySem.getD_mem (by rw [List.length_map, Array.length_toList]; omega)
  · obtain ⟨j, hj, rfl⟩ := mem_getD ha; rw [List.length_map, Array.length_toList] at hj; rw [← numAt_eq]; exact h2 j (by omega)
end
section
variable {C : CI} {X : Cx}
def rMaxD (K : PySem.W.Frag) : List V → List V → Hp → VK → Prop := fun vs zs H Q => ∃ (a : Addr) (ns : List Int) (d : V), vs = [V.ref a] ∧ zs = [d] ∧ SqL K H a (ns.map V.int) ∧ 0 < ns.length ∧ ∀ m, m ∈ ns → (∀ y, y ∈ ns → y ≤ m) → Q (.int m) H
theorem ck_max (hc : X.calm = true) : CallRK X (.builtin "max") [Str.ofString "default"] (rMaxD X.K) := by
  intro pins s σ H vs zs us ws Q I r rz h
  obtain ⟨a, ns, d, rfl, rfl, hs, hne, q⟩ := h
  obtain ⟨its, rv, hl, _⟩ := I.list hs
  rw [Vals.ref1 r]; obtain ⟨w, rfl, _⟩ := vals1 rz
  exact mx_list (I.ok.hd hc) hl.isList rv.ints hne fun h' tk m t' hk h1 h2 => ⟨.int _, H, I.kept hk, ⟨_, rfl⟩, q m h1 h2⟩
/-- max(xs, default=d), xs with an item -/
def zMaxD (za zk : ZA) : ZE := fun Γ Δ P => za Γ Δ fun ds Δ1 => zk Γ Δ1 fun es Δ2 => ∃ (x d : D) (ns : List Int), ds = [x] ∧ es = [d] ∧ lstD Δ2 x = some (ns.map D.int) ∧ ns ≠ [] ∧ ∀ m, m ∈ ns → (∀ y, y ∈ ns → y ≤ m) → P (.int m) Δ2
theorem ez_maxD {x : Str} {p pos : Pos} {e : Expr} {es : List Expr} {kws : List Keyword} {za zk : ZA} (hm : X.mg x = none) (hv : bootBuiltins x = some (.builtin "max")) (ha : AZ C X (e :: es) za) (hk : KZ C X kws zk) (hc : X.calm = true := by rfl) (hg : Gl X x := by rfl) (hn : x ≠ "__name__" := by decide) (hdb : (x == ("__debug__" : Str)) = false := by decide)
    (he : backTo pos (starEach (e :: es) X.env) = (false, eval e X.env) :: backTo pos (starEach es X.env) := by rfl) (hpl : (backTo pos (starEach (e :: es) X.env)).any (·.1) = false := by rfl)
    (hall : (backToKw pos (keywordEach kws X.env)).all (·.1.isSome) = true := by rfl) (hnone : (backToKw pos (keywordEach kws X.env)).any (·.1.isNone) = false := by rfl) (hks : (backToKw pos (keywordEach kws X.env)).filterMap (·.1) = [Str.ofString "default"] := by rfl) :
    EZ C X (.Call (.Name x p) (e :: es) kws pos) (zMaxD za zk) := by
  obtain ⟨t, a1, a2⟩ := ha.ex
  obtain ⟨u, k1, k2⟩ := hk.ex
  refine ⟨_, pe_callBK (ck_max hc) hg hm hv a1 k1 hn hdb he hpl hall hnone hks, fun S A σ H Γ Δ P Q hs hc hz k => ?_⟩
  refine a2 S A σ H Γ Δ _ _ hs hc hz fun vs ds A1 H1 Δ1 e1 c1 r1 hz1 => k2 S A1 σ H1 Γ Δ1 _ _ (hs.ext e1) c1 hz1 fun zs es A2 H2 Δ2 e2 c2 r2 hz2 => ?_
  obtain ⟨x, d, ns, rfl, rfl, hl, hne, q⟩ := hz2
  obtain ⟨v, rfl, rv⟩ := one_rep (r1.ext e2)
  obtain ⟨w, rfl, rw'⟩ := one_rep r2
  obtain ⟨pa, ys, rfl, hq, rr⟩ := Rep.lst_ c2 rv hl
  obtain rfl := repL_int rr
  exact ⟨pa, ns, w, rfl, rfl, SqL.of hq, List.length_pos_iff.mpr hne, fun m h1 h2 => k _ _ A2 H2 Δ2 (e1.trans e2) c2 (.int _) (q m h1 h2)⟩
end
/-! ### a dict whose keys are ints, while it is made -/
def putI (k : Int) (v : D) (l : List (Int × D)) : List (Int × D) := if (l.any fun p => decide (p.1 = k)) = true then l.map (fun p => if p.1 = k then (p.1, v) else p) else l ++ [(k, v)]
def dctP (l : List (Int × D)) : D := .dct (l.map (·.1)) (l.map (·.2))
section
variable (K : PySem.W.Frag) (C : CI) (S A : List Addr) (H : Hp)
inductive RepP : List (Key × V) → List (Int × D) → Prop where
  | nil : RepP [] []
  | cons {k : Int} {v : V} {vs : List (Key × V)} {d : D} {ds : List (Int × D)} (h : Rep K C S A H v d) (r : RepP vs ds) : RepP ((Sum.inl k, v) :: vs) ((k, d) :: ds)
end
section
variable {K : PySem.W.Frag} {C : CI} {S S' A A' : List Addr} {H H' : Hp}
theorem RepP.mono (m : Mo S A H S' A' H') : ∀ {vs : List (Key × V)} {ds : List (Int × D)}, RepP K C S A H vs ds → RepP K C S' A' H' vs ds
  | _, _, .nil => .nil
  | _, _, .cons h r => .cons (Rep.mono m _ h) (RepP.mono m r)
theorem RepP.length : ∀ {vs : List (Key × V)} {ds : List (Int × D)}, RepP K C S A H vs ds → vs.length = ds.length
  | _, _, .nil => rfl
  | _, _, .cons _ r => congrArg (· + 1) (RepP.length r)
theorem RepP.any {k : Int} : ∀ {vs : List (Key × V)} {ds : List (Int × D)}, RepP K C S A H vs ds → (vs.any fun p => decide (p.1 = Sum.inl k)) = ds.any fun p => decide (p.1 = k)
  | _, _, .nil => rfl
  | _, _, .cons (k := j) h r => by
    rw [List.any_cons, List.any_cons, RepP.any r]
    by_cases e : j = k
    · subst e; simp
    · have e' : ¬ (Sum.inl j : Key) = Sum.inl k := fun q => e (Sum.inl.inj q)
      rw [decide_eq_false e, decide_eq_false e']
theorem RepP.snoc {k : Int} {v : V} {d : D} (h : Rep K C S A H v d) : ∀ {vs : List (Key × V)} {ds : List (Int × D)}, RepP K C S A H vs ds → RepP K C S A H (vs ++ [(Sum.inl k, v)]) (ds ++ [(k, d)])
  | _, _, .nil => .cons h .nil
  | _, _, .cons h' r => .cons h' (RepP.snoc h r)
theorem RepP.over {k : Int} {v : V} {d : D} (h : Rep K C S A H v d) : ∀ {vs : List (Key × V)} {ds : List (Int × D)}, RepP K C S A H vs ds → RepP K C S A H (vs.map fun p => if p.1 = Sum.inl k then (p.1, v) else p) (ds.map fun p => if p.1 = k then (p.1, d) else p)
  | _, _, .nil => .nil
  | _, _, .cons (k := j) h' r => by
    rw [List.map_cons, List.map_cons]
    by_cases e : j = k
    · subst e
      simp only [if_true]
      exact .cons h (RepP.over h r)
    · have e' : ¬ (Sum.inl j : Key) = Sum.inl k := fun q => e (Sum.inl.inj q)
      rw [if_neg e, if_neg e']
      exact .cons h' (RepP.over h r)
theorem RepP.put {k : Int} {v : V} {d : D} {vs : List (Key × V)} {ds : List (Int × D)} (r : RepP K C S A H vs ds) (h : Rep K C S A H v d) : RepP K C S A H (putK vs (Sum.inl k) v) (putI k d ds) := by
  unfold putK putI
  rw [RepP.any r]
  split
  · exact RepP.over h r
  · exact RepP.snoc h r
theorem RepP.zip : ∀ {vs : List (Key × V)} {ds : List (Int × D)}, RepP K C S A H vs ds → vs = ((ds.map (·.1)).map Sum.inl).zip (vs.map (·.2)) ∧ RepL K C S A H (vs.map (·.2)) (ds.map (·.2))
  | _, _, .nil => ⟨rfl, .nil⟩
  | _, _, .cons h r => by
    obtain ⟨h1, h2⟩ := RepP.zip r
    refine ⟨?_, .cons h h2⟩
    rw [List.map_cons, List.map_cons, List.map_cons, List.zip_cons_cons, ← h1]
theorem RepP.of : ∀ {ks : List Int} {xs : List V} {ds : List D}, xs.length = ks.length → RepL K C S A H xs ds → RepP K C S A H ((ks.map Sum.inl).zip xs) (ks.zip ds)
  | [], [], _, _, .nil => .nil
  | k :: ks, x :: xs, _, e, .cons h r => .cons h (RepP.of (by simpa using e) r)
theorem RepP.rep {q : Addr} {vs : List (Key × V)} {ds : List (Int × D)} (h : H q = some (.dK vs)) (hA : q ∉ A) (hS : q ∉ S) (r : RepP K C S A H vs ds) : Rep K C S A H (.ref q) (dctP ds) := by
  obtain ⟨h1, h2⟩ := RepP.zip r
  refine .dct (xs := vs.map (·.2)) (by rw [← h1]; exact h) hA hS ?_ h2
  rw [List.length_map, List.length_map, r.length]
theorem RepP.get {k : Int} {d : D} : ∀ {vs : List (Key × V)} {ds : List (Int × D)}, RepP K C S A H vs ds → ds.lookup k = some d → ∃ v, valV vs (Sum.inl k) = some v ∧ Rep K C S A H v d
  | _, _, .nil, e => by cases e
  | _, _, .cons (k := j) (d := d') (ds := ds) (v := v) h r, e => by
    by_cases q : j = k
    · subst q
      rw [List.lookup_cons_self] at e
      cases e
      exact ⟨v, valV_pos rfl, h⟩
    · rw [List.lookup_cons, show (k == j) = false from by simp; exact fun z => q z.symm] at e
      obtain ⟨w, h1, h2⟩ := RepP.get r e
      exact ⟨w, by rw [valV_neg fun z => q (Sum.inl.inj z)]; exact h1, h2⟩
end
/-! ### {k: v for target in iter if ..} -/
def dcZ (zg : ZG) (zt : ZT) (zk zv : ZE) (Γ0 : Env) (P : D → Store → Prop) : List D → List (Int × D) → Store → Prop
  | [], acc, Δ => P (dctP acc) Δ
  | x :: xs, acc, Δ => zg x Γ0 Δ fun Γ2 Δ2 => zt Γ2 Δ2 fun b Δ3 => (b = true → zk Γ2 Δ3 fun y Δ4 => zv Γ2 Δ4 fun z Δ5 => ∃ k, y = .int k ∧ acc.length < 100000 ∧ dcZ zg zt zk zv Γ0 P xs (putI k z acc) Δ5) ∧ (b = false → dcZ zg zt zk zv Γ0 P xs acc Δ3)
def zDc (zi : ZI) (zg : ZG) (zt : ZT) (zk zv : ZE) (vs : List Nat) : ZE := fun Γ Δ P => zi Γ Δ fun items Δ1 => dcZ zg zt zk zv (wipeZ Γ vs) P items [] Δ1
section
variable {K : PySem.W.Frag} {C : CI} {S : List Addr} {q : Addr}
theorem growD_mo {A : List Addr} {H : Hp} {l : List (Key × V)} : Mo (q :: S) A H (q :: S) A (upd H q (.dK l)) := ⟨⟨[], by simp, by simp⟩, fun _ h => .inl h, fun a o _ h2 h3 => by
  rw [upd_ne (fun h => h2 (by rw [h]; exact List.mem_cons_self))]; exact h3⟩
theorem growD_cells {A : List Addr} {H : Hp} {Δ : Store} {l : List (Key × V)} (c : Cells K C (q :: S) A H Δ) : Cells K C (q :: S) A (upd H q (.dK l)) Δ := by
  have hq : q ∉ A := fun h => c.dj q h List.mem_cons_self
  refine ⟨c.len, c.nd, c.dj, fun a ha h => ?_, fun n a o h1 h2 => (c.at_ n a o h1 h2).mono growD_mo fun u h => ?_⟩
  · by_cases hb : a = q
    · subst hb; rw [upd_same] at h; cases h
    · rw [upd_ne hb] at h; exact c.as a ha h
  · rw [upd_ne (fun hb => hq (by rw [← hb]; exact List.mem_of_getElem? h1))]; exact h
/-- what the new dict at q is, all along -/
structure AtD (K : PySem.W.Frag) (C : CI) (S : List Addr) (q : Addr) (A0 : List Addr) (H0 : Hp) (A : List Addr) (H : Hp) (Δ : Store) (acc : List (Int × D)) : Prop where
  mo : Mo (q :: S) A0 H0 (q :: S) A H
  trk : ∀ a, H a = none → H0 a = none
  kp : ∀ a o, a ∉ A0 → a ≠ q → H0 a = some o → H a = some o
  cells : Cells K C (q :: S) A H Δ
  dct : ∃ accV, H q = some (.dK accV) ∧ RepP K C (q :: S) A H accV acc
theorem AtD.ext {A0 A A' : List Addr} {H0 H H' : Hp} {Δ Δ' : Store} {acc : List (Int × D)} (h : AtD K C S q A0 H0 A H Δ acc) (e : Ext A H A' H') (c : Cells K C (q :: S) A' H' Δ') : AtD K C S q A0 H0 A' H' Δ' acc := by
  obtain ⟨accV, h1, h2⟩ := h.dct
  have hq : q ∉ A := fun z => h.cells.dj q z List.mem_cons_self
  obtain ⟨B, hB, nB⟩ := h.mo.pre
  obtain ⟨B', hB', nB'⟩ := e.pre
  have hin : ∀ a o, a ∈ A → H0 a = some o → a ∈ A0 := fun a o ha ho => by
    rw [hB] at ha
    rcases List.mem_append.mp ha with ha | ha
    · exact ha
    · rw [nB a ha] at ho; cases ho
  refine ⟨⟨⟨B ++ B', by rw [hB', hB, List.append_assoc], fun b hb => ?_⟩, fun _ z => .inl z, fun a o g1 g2 g3 => ?_⟩, fun a z => h.trk a (e.trk a z), fun a o g1 g2 g3 => ?_, c, accV, e.keep q _ hq h1, h2.mono e.mo⟩
  · rcases List.mem_append.mp hb with hb | hb
    · exact nB b hb
    · exact h.trk b (nB' b hb)
  · exact e.keep a o (fun z => g1 (hin a o z g3)) (h.mo.keep a o g1 g2 g3)
  · exact e.keep a o (fun z => g1 (hin a o z g3)) (h.kp a o g1 g2 g3)
theorem AtD.grow {A0 A : List Addr} {H0 H : Hp} {Δ : Store} {acc : List (Int × D)} {accV : List (Key × V)} {y : V} {d : D} {k : Int} (h : AtD K C S q A0 H0 A H Δ acc) (h1 : H q = some (.dK accV)) (h2 : RepP K C (q :: S) A H accV acc) (r : Rep K C (q :: S) A H y d) : AtD K C S q A0 H0 A (upd H q (.dK (putK accV (Sum.inl k) y))) Δ (putI k d acc) := by
  refine ⟨⟨h.mo.pre, fun _ z => .inl z, fun a o g1 g2 g3 => ?_⟩, fun a z => ?_, fun a o g1 g2 g3 => ?_, growD_cells h.cells, _, upd_same, (h2.put r).mono growD_mo⟩
  · rw [upd_ne (fun z => g2 (by rw [z]; exact List.mem_cons_self))]; exact h.mo.keep a o g1 g2 g3
  · by_cases hb : a = q
    · subst hb; rw [upd_same] at z; cases z
    · rw [upd_ne hb] at z; exact h.trk a z
  · rw [upd_ne g2]; exact h.kp a o g1 g2 g3
theorem AtD.here {A : List Addr} {H : Hp} {Δ : Store} {acc : List (Int × D)} (c : Cells K C (q :: S) A H Δ) (l : ∃ accV, H q = some (.dK accV) ∧ RepP K C (q :: S) A H accV acc) : AtD K C S q A H A H Δ acc :=
  ⟨⟨⟨[], by simp, by simp⟩, fun _ z => .inl z, fun _ _ _ _ h => h⟩, fun _ h => h, fun _ _ _ _ h => h, c, l⟩
theorem ref_dc {wi : TI} {g : TG} {tt : TT} {tk tv : TE} {vs : List Nat} {zi : ZI} {zg : ZG} {zt : ZT} {zk zv : ZE} (hi : RefI K C wi zi) (hg : RefG K C g zg) (ho : Own g vs) (ht : RefT K C tt zt) (hk : RefE K C tk zk) (hv : RefE K C tv zv) :
    RefE K C (tDc wi g tt tk tv vs) (zDc zi zg zt zk zv vs) := fun S A σ H Γ Δ P Q hs hc hz k => hi S A σ H Γ Δ _ _ hs hc hz fun J n G Y items A1 H1 Δ1 e1 c1 p hn w hG hY q hq => by
  have s1 := hs.ext e1
  have mo0 : Mo S A1 H1 (q :: S) A1 (upd H1 q (.dK [])) := ⟨⟨[], by simp, by simp⟩, fun b hb => by
    rcases List.mem_cons.mp hb with rfl | hb
    · exact .inr hq
    · exact .inl hb, fun a o _ _ h => by rw [upd_ne (ne_of_none h hq)]; exact h⟩
  have cells0 : Cells K C (q :: S) A1 (upd H1 q (.dK [])) Δ1 := by
    refine ⟨c1.len, c1.nd, fun a ha hb => ?_, fun a ha h => ?_, fun n a o h1 h2 => (c1.at_ n a o h1 h2).mono mo0 fun u h => by rw [upd_ne (ne_of_none h hq)]; exact h⟩
    · rcases List.mem_cons.mp hb with rfl | hb
      · exact c1.fresh hq ha
      · exact c1.dj a ha hb
    · rcases List.mem_cons.mp ha with rfl | ha
      · rw [upd_same] at h; cases h
      · exact c1.as a ha ((Ext.new (A := A1) hq).trk a h)
  have mo2 : ∀ {A2 : List Addr} {H2 : Hp} {Δ2 : Store} {acc : List (Int × D)}, AtD K C S q A1 (upd H1 q (.dK [])) A2 H2 Δ2 acc → Mo S A1 H1 (q :: S) A2 H2 := fun {A2 H2 Δ2 acc} a => by
    obtain ⟨B, hB, nB⟩ := a.mo.pre
    refine ⟨⟨B, hB, fun b hb => (Ext.new (A := A1) hq).trk b (nB b hb)⟩, mo0.sub, fun x o h1 h2 h3 => ?_⟩
    have hx := ne_of_none h3 hq
    exact a.kp x o h1 hx (by rw [upd_ne hx]; exact h3)
  have ext2 : ∀ {A2 : List Addr} {H2 : Hp} {Δ2 : Store} {acc : List (Int × D)}, AtD K C S q A1 (upd H1 q (.dK [])) A2 H2 Δ2 acc → Ext A1 H1 A2 H2 := fun {A2 H2 Δ2 acc} a => by
    obtain ⟨B, hB, nB⟩ := a.mo.pre
    refine ⟨⟨B, hB, fun b hb => (Ext.new (A := A1) hq).trk b (nB b hb)⟩, fun x o h1 h3 => ?_, fun x h => (Ext.new (A := A1) hq).trk x (a.trk x h)⟩
    have hx := ne_of_none h3 hq
    exact a.kp x o h1 hx (by rw [upd_ne hx]; exact h3)
  refine ⟨fun i m H2 => m = n - i ∧ i ≤ n ∧ ∃ A2 Δ2 acc, AtD K C S q A1 (upd H1 q (.dK [])) A2 H2 Δ2 acc ∧ dcZ zg zt zk zv (wipeZ Γ vs) P (items.drop i) acc Δ2, ⟨n, by simp, Nat.zero_le _, A1, Δ1, [], .here cells0 ⟨[], upd_same, .nil⟩, p⟩, ?_⟩
  rintro i m H2 ⟨rfl, hin, A2, Δ2, acc, a0, p2⟩
  have gg := hG (q :: S) A2 H2 (mo2 a0)
  by_cases hlt : i < n
  · refine .inr ⟨w.goes i H2 hlt gg, fun H' => ∃ A2 Δ2 acc, AtD K C S q A1 (upd H1 q (.dK [])) A2 H' Δ2 acc ∧ dcZ zg zt zk zv (wipeZ Γ vs) P (items.drop (i + 1)) acc Δ2, fun H' p' => ⟨n - (i + 1), by omega, rfl, hlt, p'⟩, fun x H3 y => ?_⟩
    obtain ⟨d, q1, q2, q3⟩ := hY (q :: S) A2 H2 Δ2 i x H3 hlt (mo2 a0) a0.cells (w.yields i H2 x H3 hlt gg y)
    rw [drop_cons q1] at p2
    have e3 : Ext A2 H2 A2 H3 := Ext.kept q2
    have c3 := a0.cells.kept q2
    have s3 : Slots K C (q :: S) A2 H3 (wipe σ vs) (wipeZ Γ vs) := ((s1.mono (mo2 a0)).ext e3).wipe vs
    have h5 := hg (q :: S) A2 (wipe σ vs) H3 (wipeZ Γ vs) Δ2 x d _ (fun σ4 H4 => tt σ4 H4 fun b H5 => if b = true then tk σ4 H5 fun y H4 => tv σ4 H4 fun z H5 => ∃ kvs k, y = kV k ∧ H5 q = some (.dK kvs) ∧ kvs.length < sizeLine ∧ ∃ A2 Δ2 acc, AtD K C S q A1 (upd H1 q (.dK [])) A2 (upd H5 q (.dK (putK kvs k z))) Δ2 acc ∧ dcZ zg zt zk zv (wipeZ Γ vs) P (items.drop (i + 1)) acc Δ2
        else ∃ A2 Δ2 acc, AtD K C S q A1 (upd H1 q (.dK [])) A2 H5 Δ2 acc ∧ dcZ zg zt zk zv (wipeZ Γ vs) P (items.drop (i + 1)) acc Δ2) s3 c3 q3 p2 fun σ4 A4 H4 Γ4 Δ4 e4 s4 c4 p4 => by
      refine ht (q :: S) A4 σ4 H4 Γ4 Δ4 _ _ s4 c4 p4 fun b A5 H5 Δ5 e5 c5 p5 => ?_
      have b0 := ((a0.ext e3 c3).ext e4 c4).ext e5 c5
      cases b with
      | false => exact iteF ⟨A5, Δ5, acc, b0, p5.2 rfl⟩
      | true =>
        refine iteT (hk (q :: S) A5 σ4 H5 Γ4 Δ5 _ _ (s4.ext e5) c5 (p5.1 rfl) fun y dy A6 H6 Δ6 e6 c6 r6 p6 => ?_)
        refine hv (q :: S) A6 σ4 H6 Γ4 Δ6 _ _ ((s4.ext e5).ext e6) c6 p6 fun z dz A7 H7 Δ7 e7 c7 r7 p7 => ?_
        have d0 := (b0.ext e6 c6).ext e7 c7
        obtain ⟨j, rfl, hlen, p7⟩ := p7
        cases r6
        obtain ⟨accV, l1, l2⟩ := d0.dct
        exact ⟨accV, Sum.inl j, rfl, l1, lt_line (by rw [l2.length]; exact hlen), A7, Δ7, _, d0.grow l1 l2 r7, p7⟩
    have fin := ho _ _ _ _ h5
    rw [wipe_wipe] at fin
    exact fin
  · have e : i = n := by omega
    subst e
    rw [hn, List.drop_length] at p2
    refine .inl ⟨w.stops H2 gg, ?_⟩
    obtain ⟨accV, l1, l2⟩ := a0.dct
    have c2 := a0.cells
    have hq2 : q ∉ A2 := fun h => c2.dj q h List.mem_cons_self
    have mo8 : Mo (q :: S) A2 H2 S A2 H2 := ⟨⟨[], by simp, by simp⟩, fun b hb => .inl (List.mem_cons_of_mem _ hb), fun _ _ _ _ h => h⟩
    exact k _ _ A2 H2 Δ2 (e1.trans (ext2 a0)) ⟨c2.len, c2.nd, fun a ha hb => c2.dj a ha (List.mem_cons_of_mem _ hb), fun a ha => c2.as a (List.mem_cons_of_mem _ ha), fun n a o h1 h2 => (c2.at_ n a o h1 h2).mono mo8 fun _ h => h⟩
      (RepP.rep l1 hq2 (c1.aside hq) (l2.mono mo8)) p2
end
section
variable {C : CI} {X : Cx}
theorem ez_dc {kx vx tg iter : Expr} {ifs : List Expr} {scope : Scope} {own : List (Str × Nat)} {pos : Pos} {zi : ZI} {g : TG} {zg : ZG} {zt : ZT} {zk zv : ZE} (hN : X.N.Nodup) (hi : IZ C X tg iter zi) (ok : BlkOk X.N X.env.scope scope own) (ho : Own g (own.map (·.2))) (hr : RefG X.K C g zg)
    (hg : ∀ (s : Shared) (H : Hp) (Ca : Addr) (cl : List (Str × Addr)) (fp : List Addr), PG (X.blk s H scope (compEnvC scope cl Ca X.env) fp) tg g)
    (ht : ∀ (s : Shared) (H : Hp) (Ca : Addr) (cl : List (Str × Addr)) (fp : List Addr), TsZ C (X.blk s H scope (compEnvC scope cl Ca X.env) fp) ifs zt)
    (hk : ∀ (s : Shared) (H : Hp) (Ca : Addr) (cl : List (Str × Addr)) (fp : List Addr), EZ C (X.blk s H scope (compEnvC scope cl Ca X.env) fp) kx zk)
    (hv : ∀ (s : Shared) (H : Hp) (Ca : Addr) (cl : List (Str × Addr)) (fp : List Addr), EZ C (X.blk s H scope (compEnvC scope cl Ca X.env) fp) vx zv)
    (hc : X.calm = true := by rfl) (hs : ∀ x, foldedSetIterable iter X.env x = pure x := by intro _; rfl) :
    EZ C X (.DictComp kx vx [⟨tg, iter, ifs, 0⟩] scope pos) (zDc zi zg zt zk zv (own.map (·.2))) := by
  obtain ⟨wi, i1, i2⟩ := hi.ex
  exact ⟨_, pe_dc hc hN i1 ok hg (fun s H Ca cl fp => (ht s H Ca cl fp).up) (fun s H Ca cl fp => (hk s H Ca cl fp).up) (fun s H Ca cl fp => (hv s H Ca cl fp).up) hs, ref_dc i2 hr ho ref_upT ref_up ref_up⟩
/-! ### d[k] of such a dict; sorted(d) -/
/-- what a value is as a dict -/
def dctOf (Δ : Store) : D → Option (List (Int × D))
  | .dct ks ds => some (ks.zip ds)
  | .cell n => match Δ[n]? with
    | some (.dct ks ds) => some (ks.zip ds)
    | _ => none
  | _ => none
theorem Rep.dctOf {K : PySem.W.Frag} {S A : List Addr} {H : Hp} {Δ : Store} {x : V} {d : D} {ds : List (Int × D)} (hc : Cells K C S A H Δ) (r : Rep K C S A H x d) (h : Z.dctOf Δ d = some ds) :
    ∃ p vs, x = .ref p ∧ H p = some (.dK vs) ∧ RepP K C S A H vs ds := by
  cases r with
  | dct h1 hA hS hl r => cases h; exact ⟨_, _, rfl, h1, RepP.of hl r⟩
  | cell h1 =>
    rename_i n
    unfold Z.dctOf at h
    cases q : Δ[n]? with
    | none => simp only [q] at h; cases h
    | some o =>
      cases o with
      | lst _ => simp only [q] at h; cases h
      | ins _ _ => simp only [q] at h; cases h
      | dct ks es =>
        simp only [q] at h
        cases h
        obtain ⟨xs, e1, e2, e3⟩ := hc.at_ n _ _ h1 q
        exact ⟨_, _, rfl, e1, RepP.of e2 e3⟩
  | _ => cases h
def zDGet (za zb : ZE) : ZE := fun Γ Δ P => za Γ Δ fun x Δ1 => zb Γ Δ1 fun y Δ2 => ∃ (ds : List (Int × D)) (k : Int) (d : D), dctOf Δ2 x = some ds ∧ y = .int k ∧ ds.lookup k = some d ∧ P d Δ2
theorem ez_dget {a b : Expr} {pos : Pos} {za zb : ZE} (hu64 : X.A.units + 64 < cLine) (ha : EZ C X a za) (hb : EZ C X b zb) (hp : NoSl b := by first | trivial | exact fun _ _ => rfl | decide) : EZ C X (.Subscript a b pos) (zDGet za zb) := by
  obtain ⟨ta, a1, a2⟩ := ha.ex
  obtain ⟨tb, b1, b2⟩ := hb.ex
  have hu : X.A.units + 1 < cLine := Nat.lt_of_le_of_lt (Nat.add_le_add_left (by decide) _) hu64
  refine ⟨_, pe_dget hu a1 b1 hp, fun S A σ H Γ Δ P Q hs hc hz k => a2 S A σ H Γ Δ _ _ hs hc hz fun x dx A1 H1 Δ1 e1 c1 r1 hz1 => b2 S A1 σ H1 Γ Δ1 _ _ (hs.ext e1) c1 hz1 fun y dy A2 H2 Δ2 e2 c2 r2 hz2 => ?_⟩
  obtain ⟨ds, j, d, h1, rfl, h3, p⟩ := hz2
  obtain ⟨pa, vs, rfl, g1, g2⟩ := Rep.dctOf c2 (r1.ext e2) h1
  obtain ⟨v, w1, w2⟩ := g2.get h3
  cases r2
  refine ⟨pa, v, rfl, ?_, k v d A2 H2 Δ2 (e1.trans e2) c2 w2 p⟩
  have := DGet.k (k := Sum.inl j) g1
  rw [w1] at this
  exact this
/-- sorted(d), keys ints, any number of them -/
def rSortDI : List V → Hp → VK → Prop := fun xs H Q => ∃ (a : Addr) (kvs : List (Key × V)) (ks : List Int), xs = [.ref a] ∧ Rd H a (.dK kvs) ∧ kvs.map (·.1) = ks.map Sum.inl ∧ ∀ (ys : List Int) (p : Addr), ys.Perm ks → ys.Pairwise (· ≤ ·) → H p = none → Q (.ref p) (upd H p (.lst (ys.map V.int)))
theorem cr_sortDI (hcalm : X.calm = true) : CallR X (.builtin "sorted") rSortDI := by
  intro pins s σ H xs us Q I r q
  obtain ⟨a, kvs, ks, rfl, hd, hks, q⟩ := q
  obtain ⟨u, rfl, rx⟩ := vals1 r; cases rx
  obtain ⟨z, lo, vs, rel, dd⟩ := dk_rd I.hok hd; obtain ⟨ep, hat⟩ := dd.dictAt
  have hkeys : vs.map (·.1) = ks.map Sum.inl := rel.keys.symm.trans hks
  have hl : vs.length = ks.length := by
    have e := congrArg List.length hkeys
    simpa using e
  have h16 : vs.length ≤ sizeLine := by rw [← rel.length]; exact z
  refine Calls.call_function_entry kind_sorted plain_sorted entry_sorted (args_sorted1 _) ?_
  unfold Builtin.«sorted»
  refine wpAny_bind (m := checkCount "sorted" 1 1 _) (wpAny_pure (wpAny_bind (PySem.W.kdu_collect (A := X.A.in1) (PySem.W.kdl_dict (knd := mixKind X.prog X.w) (kvs := vs) (ep := ep) lo) (I.ok.hd hcalm) hat h16 fun h' tk acc hk hacc => ?_)))
  have hal : acc.toList.length = ks.length := by rw [Array.length_toList, hacc.1, hl]
  have hS : IntsAre acc.toList ks := ints_each hal fun j v e => by
    obtain ⟨k, x, e1, e2⟩ := hacc.2 j v (by rw [← Array.getElem?_toList]; exact e); have e3 : (vs.map (·.1))[j]? = some k := by rw [List.getElem?_map, e1]; rfl
    rw [hkeys, List.getElem?_map] at e3
    cases e4 : ks[j]? with
    | none => rw [e4] at e3; cases e3
    | some y =>
      rw [e4] at e3; obtain rfl : Sum.inl y = k := Option.some.inj e3
      rcases keyIs_shape (show keyIs (Sum.inl y) v = true from e2) with ⟨i, t, ek, ev⟩ | ⟨z, t, ek, ev⟩
      · cases ek; exact ⟨y, t, rfl, ev⟩
      · cases ek
  have I1 : Inv X pins σ H { s with heap := h', toks := tk } := I.kept hk
  have hz2 : acc.toList.length ≤ sizeLine := by rw [hal, ← hl]; exact h16
  refine wpAny_bind (wpAny_newList ?_ hz2)
  have ho : (h'.push (seqObj "list" acc.toList.toArray 0)).get? h'.objs.size = some (seqObj "list" acc.toList.toArray 0) := Heap.get?_push_size _ rfl
  show wpAny _ _ _ _ _ { s with heap := h'.push (seqObj "list" acc.toList.toArray 0), toks := tk }
  refine wpAny_bind (wpAny_holding (wpAny_call_entry slot_list_sort ⟨_, ho, rfl⟩ entry_list_sort (SrtO.list_sort_ord (s := { s with heap := h'.push (seqObj "list" acc.toList.toArray 0), toks := tk }) SrtO.swo_int ho hz2 (fun h2 => SrtO.ints_sortable hS h2) fun out h1 h2 => ⟨_, rfl, ?_⟩) (args_list_sort _)))
  obtain ⟨k1, k2, k3⟩ := SrtO.ints_out hS h1 h2
  obtain ⟨e', he'⟩ := sortedHeap_at (vs := acc.toList) (out := out.toArray) ho
  have hlen : ((out.map SrtO.iv).map V.int).length ≤ sizeLine := by rw [List.length_map, k2.length_eq, ← hl]; exact h16
  refine wpAny_pure ⟨_, rfl, .ref h'.objs.size, upd H h'.objs.size (.lst ((out.map SrtO.iv).map V.int)), I1.laid (t' := tk) (fun b u e => ?_) (Nat.le_refl _)
    (show ObjOk X.prog X.w _ _ _ (.lst ((out.map SrtO.iv).map V.int)) from ⟨hlen, out, e', vals_of_ints k1, he'⟩), rfl, q _ _ k2 k3 (I1.hok.fresh (Nat.le_refl _))⟩
  have hb : b < h'.objs.size := Heap.lt_size e
  rw [sortedHeap_old (Nat.ne_of_lt hb) (by rw [size_push']; exact Nat.lt_succ_of_lt hb)]
  exact Heap.get?_push_of_some _ e
def zSortD : ZRC := fun ds Δ P => ∃ (x : D) (l : List (Int × D)), ds = [x] ∧ dctOf Δ x = some l ∧ ∀ ys : List Int, ys.Perm (l.map (·.1)) → ys.Pairwise (· ≤ ·) → P (.lst (ys.map D.int)) Δ
theorem RepP.keys {K : PySem.W.Frag} {S A : List Addr} {H : Hp} : ∀ {vs : List (Key × V)} {ds : List (Int × D)}, RepP K C S A H vs ds → vs.map (·.1) = (ds.map (·.1)).map Sum.inl
  | _, _, .nil => rfl
  | _, _, .cons h r => by rw [List.map_cons, List.map_cons, List.map_cons, RepP.keys r]
theorem cz_sortD (hc : X.calm = true := by rfl) : CallZ C X (.builtin "sorted") zSortD := ⟨_, cr_sortDI hc, fun S A H Δ xs ds P Q hc r hz k => by
  obtain ⟨x, l, rfl, hd, q⟩ := hz
  obtain ⟨v, rfl, rv⟩ := one_rep r
  obtain ⟨pa, vs, rfl, g1, g2⟩ := Rep.dctOf hc rv hd
  refine ⟨pa, vs, l.map (·.1), rfl, .inl g1, g2.keys, fun ys p h1 h2 hp => ?_⟩
  have e : Ext A H A (upd H p (.lst (ys.map V.int))) := Ext.new hp
  have hpA : p ∉ A := hc.fresh hp
  refine k _ _ A _ Δ e (hc.kept fun a o h => by rw [upd_ne (ne_of_none h hp)]; exact h) (.lst upd_same hpA (hc.aside hp) (repL_ints ys)) (q ys h1 h2)⟩
end
/-! ### lists and dicts that a comprehension makes, as cells -/
def asCell (P : D → Store → Prop) : D → Store → Prop := fun d Δ => ∃ ds, d = .lst ds ∧ P (.cell Δ.length) (Δ ++ [.lst ds])
def zLcC (zi : ZI) (zg : ZG) (zt : ZT) (ze : ZE) (vs : List Nat) : ZE := fun Γ Δ P => zi Γ Δ fun items Δ1 => compZ zg zt ze (wipeZ Γ vs) (asCell P) items [] Δ1
section
variable {K : PySem.W.Frag} {C : CI} {S A : List Addr} {H : Hp} {q : Addr}
theorem nin_snoc {a : Addr} (h1 : a ∉ A) (h2 : a ∉ q :: S) : a ∉ A ++ [q] := fun h => by
  rcases List.mem_append.mp h with h | h
  · exact h1 h
  · rw [List.mem_singleton] at h
    exact h2 (by rw [h]; exact List.mem_cons_self)
mutual
theorem Rep.unaside : ∀ {v : V} {d : D}, Rep K C (q :: S) A H v d → q ∉ A → q ∉ S → Rep K C S (A ++ [q]) H v d
  | _, .non, h, _, _ => by cases h; exact .non
  | _, .bl b, h, _, _ => by cases h; exact .bl b
  | _, .int i, h, _, _ => by cases h; exact .int i
  | _, .str x, h, _, _ => by cases h; exact .str x
  | _, .ty n, h, _, _ => by cases h; exact .ty n
  | _, .cls c, h, _, _ => by cases h; exact .cls c
  | _, .tup ds, h, h1, h2 => by cases h with | tup h hA hS r => exact .tup h (nin_snoc hA hS) (fun z => hS (List.mem_cons_of_mem _ z)) (RepL.unaside r h1 h2)
  | _, .lst ds, h, h1, h2 => by cases h with | lst h hA hS r => exact .lst h (nin_snoc hA hS) (fun z => hS (List.mem_cons_of_mem _ z)) (RepL.unaside r h1 h2)
  | _, .ins c ds, h, h1, h2 => by cases h with | ins h hA hS hl r => exact .ins h (nin_snoc hA hS) (fun z => hS (List.mem_cons_of_mem _ z)) hl (RepL.unaside r h1 h2)
  | _, .dct ks ds, h, h1, h2 => by cases h with | dct h hA hS hl r => exact .dct h (nin_snoc hA hS) (fun z => hS (List.mem_cons_of_mem _ z)) hl (RepL.unaside r h1 h2)
  | _, .cell n, h, _, _ => by
    cases h with
    | cell h => exact .cell (by rw [List.getElem?_append_left (List.getElem?_eq_some_iff.mp h).1]; exact h)
  | _, .scr ns, h, _, _ => by
    cases h with
    | scr h =>
      rcases h with ⟨h, hA, hS⟩ | h
      · exact .scr (.inl ⟨h, nin_snoc hA hS, fun z => hS (List.mem_cons_of_mem _ z)⟩)
      · exact .scr (.inr h)
theorem RepL.unaside : ∀ {vs : List V} {ds : List D}, RepL K C (q :: S) A H vs ds → q ∉ A → q ∉ S → RepL K C S (A ++ [q]) H vs ds
  | _, [], h, _, _ => by cases h; exact .nil
  | _, d :: ds, h, h1, h2 => by
    cases h with
    | cons h r => exact .cons (Rep.unaside h h1 h2) (RepL.unaside r h1 h2)
end
theorem RepP.unaside : ∀ {vs : List (Key × V)} {ds : List (Int × D)}, RepP K C (q :: S) A H vs ds → q ∉ A → q ∉ S → RepP K C S (A ++ [q]) H vs ds
  | _, _, .nil, _, _ => .nil
  | _, _, .cons h r, h1, h2 => .cons (h.unaside h1 h2) (RepP.unaside r h1 h2)
theorem Cells.unset {Δ : Store} {o : O} (c : Cells K C (q :: S) A H Δ) (hS : q ∉ S) (ho : CellAt K C S (A ++ [q]) H q o) : Cells K C S (A ++ [q]) H (Δ ++ [o]) := by
  have hq : q ∉ A := fun h => c.dj q h List.mem_cons_self
  refine ⟨by rw [List.length_append, List.length_append, c.len] <;> rfl, ?_, fun a ha hb => ?_, fun a ha => c.as a (List.mem_cons_of_mem _ ha), fun n a o' h1 h2 => ?_⟩
  · refine List.nodup_append.mpr ⟨c.nd, by simp, fun a ha b hb e => ?_⟩
    rw [List.mem_singleton] at hb
    subst hb; subst e
    exact hq ha
  · rcases List.mem_append.mp ha with ha | ha
    · exact c.dj a ha (List.mem_cons_of_mem _ hb)
    · rw [List.mem_singleton] at ha
      subst ha
      exact hS hb
  · by_cases hn : n < A.length
    · rw [List.getElem?_append_left hn] at h1
      rw [List.getElem?_append_left (by rw [← c.len]; exact hn)] at h2
      have g := c.at_ n a o' h1 h2
      cases o' with
      | lst ds => obtain ⟨xs, e, r⟩ := g; exact ⟨xs, e, r.unaside hq hS⟩
      | ins k fs => obtain ⟨dx, xs, e, z, r⟩ := g; exact ⟨dx, xs, e, z, r.unaside hq hS⟩
      | dct ks ds => obtain ⟨xs, e, z, r⟩ := g; exact ⟨xs, e, z, r.unaside hq hS⟩
    · have e1 : n = A.length := by
        have := (List.getElem?_eq_some_iff.mp h1).1
        rw [List.length_append] at this
        simp at this
        omega
      subst e1
      rw [List.getElem?_append_right (Nat.le_refl _), Nat.sub_self] at h1
      rw [c.len, List.getElem?_append_right (Nat.le_refl _), Nat.sub_self] at h2
      cases h1; cases h2
      exact ho
theorem Ext.cellIn {A0 A2 : List Addr} {H0 H2 : Hp} (e : Ext A0 H0 A2 H2) (hq : H0 q = none) (hq2 : q ∉ A2) : Ext A0 H0 (A2 ++ [q]) H2 := by
  obtain ⟨B, hB, nB⟩ := e.pre
  refine ⟨⟨B ++ [q], by rw [hB, List.append_assoc], fun b hb => ?_⟩, e.keep, e.trk⟩
  rcases List.mem_append.mp hb with hb | hb
  · exact nB b hb
  · rw [List.mem_singleton] at hb; subst hb; exact hq
end
theorem ref_lcC {K : PySem.W.Frag} {C : CI} {wi : TI} {g : TG} {tt : TT} {te : TE} {vs : List Nat} {zi : ZI} {zg : ZG} {zt : ZT} {ze : ZE} (hi : RefI K C wi zi) (hg : RefG K C g zg) (ho : Own g vs) (ht : RefT K C tt zt) (he : RefE K C te ze) :
    RefE K C (tLc wi g tt te vs) (zLcC zi zg zt ze vs) := fun S A σ H Γ Δ P Q hs hc hz k => hi S A σ H Γ Δ _ _ hs hc hz fun J n G Y items A1 H1 Δ1 e1 c1 p hn w hG hY q hq => by
  have s1 := hs.ext e1
  -- the list at q is set aside
  have mo0 : Mo S A1 H1 (q :: S) A1 (upd H1 q (.lst [])) := ⟨⟨[], by simp, by simp⟩, fun b hb => by
    rcases List.mem_cons.mp hb with rfl | hb
    · exact .inr hq
    · exact .inl hb, fun a o _ _ h => by rw [upd_ne (ne_of_none h hq)]; exact h⟩
  have cells0 : Cells K C (q :: S) A1 (upd H1 q (.lst [])) Δ1 := by
    refine ⟨c1.len, c1.nd, fun a ha hb => ?_, fun a ha h => ?_, fun n a o h1 h2 => (c1.at_ n a o h1 h2).mono mo0 fun u h => by rw [upd_ne (ne_of_none h hq)]; exact h⟩
    · rcases List.mem_cons.mp hb with rfl | hb
      · exact c1.fresh hq ha
      · exact c1.dj a ha hb
    · rcases List.mem_cons.mp ha with rfl | ha
      · rw [upd_same] at h; cases h
      · exact c1.as a ha ((Ext.new (A := A1) hq).trk a h)
  refine lc_it w (fun i H2 => ∃ A2 Δ2 acc accV, Ext A1 H1 A2 H2 ∧ Mo S A1 H1 (q :: S) A2 H2 ∧ Cells K C (q :: S) A2 H2 Δ2 ∧ H2 q = some (.lst accV) ∧ RepL K C (q :: S) A2 H2 accV acc ∧ compZ zg zt ze (wipeZ Γ vs) (asCell P) (items.drop i) acc Δ2)
    ⟨A1, Δ1, [], [], Ext.new hq, mo0, cells0, upd_same, .nil, p⟩ (fun i H2 _ ⟨A2, Δ2, acc, accV, _, m, _⟩ => hG _ A2 H2 m) ?_ ?_
  · rintro i x H2 H3 hi2 ⟨A2, Δ2, acc, accV, e2, m2, c2, hqv, hacc, hp⟩ y
    obtain ⟨d, q1, q2, q3⟩ := hY _ A2 H2 Δ2 i x H3 hi2 m2 c2 y
    have hd : items.drop i = d :: items.drop (i + 1) := by
      obtain ⟨hl, q⟩ := List.getElem?_eq_some_iff.mp q1
      rw [← q]
      exact List.drop_eq_getElem_cons hl
    rw [hd] at hp
    have e3 : Ext A2 H2 A2 H3 := Ext.kept q2
    have s3 : Slots K C (q :: S) A2 H3 (wipe σ vs) (wipeZ Γ vs) := ((s1.mono m2).ext e3).wipe vs
    have fin : g x (wipe σ vs) H3 fun σ2 H4 => wipe σ2 vs = wipe (wipe σ vs) vs ∧ tt σ2 H4 fun b H5 =>
        if b = true then te σ2 H5 fun y H6 => ∃ acc, H6 q = some (.lst acc) ∧ acc.length < sizeLine ∧ ∃ A2 Δ2 acc' accV, Ext A1 H1 A2 (upd H6 q (.lst (acc ++ [y]))) ∧ Mo S A1 H1 (q :: S) A2 (upd H6 q (.lst (acc ++ [y]))) ∧ Cells K C (q :: S) A2 (upd H6 q (.lst (acc ++ [y]))) Δ2 ∧
          (upd H6 q (.lst (acc ++ [y]))) q = some (.lst accV) ∧ RepL K C (q :: S) A2 (upd H6 q (.lst (acc ++ [y]))) accV acc' ∧ compZ zg zt ze (wipeZ Γ vs) (asCell P) (items.drop (i + 1)) acc' Δ2
        else ∃ A2 Δ2 acc accV, Ext A1 H1 A2 H5 ∧ Mo S A1 H1 (q :: S) A2 H5 ∧ Cells K C (q :: S) A2 H5 Δ2 ∧ H5 q = some (.lst accV) ∧ RepL K C (q :: S) A2 H5 accV acc ∧ compZ zg zt ze (wipeZ Γ vs) (asCell P) (items.drop (i + 1)) acc Δ2 := by
      refine ho _ _ _ _ (hg (q :: S) A2 (wipe σ vs) H3 (wipeZ Γ vs) Δ2 x d _ _ s3 (c2.kept q2) q3 hp fun σ4 A4 H4 Γ4 Δ4 e4 s4 c4 p4 => ?_)
      refine ht (q :: S) A4 σ4 H4 Γ4 Δ4 _ _ s4 c4 p4 fun b A5 H5 Δ5 e5 c5 p5 => ?_
      have e25 := (e3.trans e4).trans e5
      have e15 := e2.trans e25
      have hq2 : q ∉ A2 := fun h => c2.dj q h List.mem_cons_self
      have hq5 : H5 q = some (.lst accV) := e25.keep q _ hq2 hqv
      have m5 : Mo S A1 H1 (q :: S) A5 H5 := ⟨e15.pre, m2.sub, fun a o h1 _ h3 => e15.keep a o h1 h3⟩
      cases b with
      | false => exact iteF ⟨A5, Δ5, acc, accV, e15, m5, c5, hq5, hacc.ext e25, p5.2 rfl⟩
      | true =>
        refine iteT (he (q :: S) A5 σ4 H5 Γ4 Δ5 _ _ (s4.ext e5) c5 (p5.1 rfl) fun y dy A6 H6 Δ6 e6 c6 r6 p6 => ?_)
        have e16 := e15.trans e6
        have hq5' : q ∉ A5 := fun h => c5.dj q h List.mem_cons_self
        have hq6' : q ∉ A6 := fun h => c6.dj q h List.mem_cons_self
        have hq6 : H6 q = some (.lst accV) := e6.keep q _ hq5' hq5
        have hacc6 := (hacc.ext e25).ext e6
        have mo7 : Mo (q :: S) A6 H6 (q :: S) A6 (upd H6 q (.lst (accV ++ [y]))) := ⟨⟨[], by simp, by simp⟩, fun _ h => .inl h, fun a o _ h2 h3 => by
          rw [upd_ne (fun h => h2 (by rw [h]; exact List.mem_cons_self))]; exact h3⟩
        have nq : ∀ a o, H1 a = some o → a ≠ q := fun a o h => ne_of_none h hq
        refine ⟨accV, hq6, lt_line (by rw [hacc6.length]; exact p6.1), A6, Δ6, acc ++ [dy], accV ++ [y], ?_, ?_, ?_, upd_same, ?_, p6.2⟩
        · exact ⟨e16.pre, fun a o h1 h2 => by rw [upd_ne (nq a o h2)]; exact e16.keep a o h1 h2, fun a h => by
            by_cases hb : a = q
            · subst hb; exact hq
            · rw [upd_ne hb] at h; exact e16.trk a h⟩
        · exact ⟨e16.pre, m2.sub, fun a o h1 _ h3 => by rw [upd_ne (nq a o h3)]; exact e16.keep a o h1 h3⟩
        · refine ⟨c6.len, c6.nd, c6.dj, fun a ha h => ?_, fun n a o h1 h2 => (c6.at_ n a o h1 h2).mono mo7 fun u h => ?_⟩
          · by_cases hb : a = q
            · subst hb; rw [upd_same] at h; cases h
            · rw [upd_ne hb] at h; exact c6.as a ha h
          · rw [upd_ne (fun hb => hq6' (by rw [← hb]; exact List.mem_of_getElem? h1))]; exact h
        · exact (RepL.append hacc6 (.cons r6 .nil)).mono mo7 _
    rw [wipe_wipe] at fin
    exact fin
  · rintro H2 ⟨A2, Δ2, acc, accV, e2, m2, c2, hqv, hacc, hp⟩
    rw [hn, List.drop_length] at hp
    obtain ⟨es, e9, hp⟩ := hp
    cases e9
    have hq2 : q ∉ A2 := fun h => c2.dj q h List.mem_cons_self
    exact k _ _ (A2 ++ [q]) H2 (Δ2 ++ [.lst acc]) (Ext.cellIn (e1.trans e2) (e1.trk q hq) hq2) (Cells.unset (o := .lst acc) c2 (c1.aside hq) ⟨accV, hqv, hacc.unaside hq2 (c1.aside hq)⟩) (.cell (by rw [← c2.len, List.getElem?_append_right (Nat.le_refl _), Nat.sub_self] <;> rfl)) hp
section
variable {C : CI} {X : Cx}
theorem ez_lcC {elt tg iter : Expr} {ifs : List Expr} {scope : Scope} {own : List (Str × Nat)} {pos : Pos} {zi : ZI} {g : TG} {zg : ZG} {zt : ZT} {ze : ZE} (hN : X.N.Nodup) (hi : IZ C X tg iter zi) (ok : BlkOk X.N X.env.scope scope own) (ho : Own g (own.map (·.2))) (hb : BlkZ C X scope tg ifs elt g zg zt ze)
    (hc : X.calm = true := by rfl) (hs : ∀ x, foldedSetIterable iter X.env x = pure x := by intro _; rfl) : EZ C X (.ListComp elt [⟨tg, iter, ifs, 0⟩] scope pos) (zLcC zi zg zt ze (own.map (·.2))) := by
  obtain ⟨wi, i1, i2⟩ := hi.ex; obtain ⟨tt, te, b1, b2, b3, b4⟩ := hb.ex
  exact ⟨_, pe_lc hc hN i1 ok (fun s H Ca cl fp => (b1 s H Ca cl fp).1) (fun s H Ca cl fp => (b1 s H Ca cl fp).2.1) (fun s H Ca cl fp => (b1 s H Ca cl fp).2.2) hs, ref_lcC i2 b2 ho b3 b4⟩
end
end Z

/-! Z13: an expression or a test that is lent the cells' contents: what it makes is forgotten, but for a value of tuples and what stands nowhere. -/
namespace Z
open PySem PySem.Spec PyProof.Rows L2
mutual
def bareT : D → Bool
  | .non | .bl _ | .int _ | .str _ => true
  | .tup ds => bareTs ds
  | _ => false
def bareTs : List D → Bool
  | [] => true
  | d :: ds => bareT d && bareTs ds
end
section
variable {K : PySem.W.Frag} {C : CI} {S A : List Addr} {H : Hp} {Δ : Store}
theorem Cells.no_tup (c : Cells K C S A H Δ) {a : Addr} {xs : List V} (h : H a = some (.tup xs)) : a ∉ A := fun hm => by
  obtain ⟨n, hn⟩ := List.mem_iff_getElem?.mp hm
  have hl : n < Δ.length := by rw [← c.len]; exact (List.getElem?_eq_some_iff.mp hn).1
  have q := c.at_ n a _ hn (List.getElem?_eq_getElem hl)
  cases e : Δ[n] with
  | lst ds => rw [e] at q; obtain ⟨xs, g, _⟩ := q; rw [h] at g; cases g
  | ins k fs => rw [e] at q; obtain ⟨dx, xs, g, _⟩ := q; rw [h] at g; cases g
  | dct ks ds => rw [e] at q; obtain ⟨xs, g, _⟩ := q; rw [h] at g; cases g
mutual
theorem Rep.of_bareT {A' : List Addr} (c : Cells K C S A H Δ) : ∀ (d : D) {v : V}, bareT d = true → Rep K C S A' H v d → Rep K C S A H v d
  | .non, _, _, h => by cases h; exact .non
  | .bl b, _, _, h => by cases h; exact .bl b
  | .int i, _, _, h => by cases h; exact .int i
  | .str x, _, _, h => by cases h; exact .str x
  | .tup ds, _, hb, h => by cases h with | tup h1 hA hS r => exact .tup h1 (c.no_tup h1) hS (RepL.of_bareT c ds hb r)
  | .ty _, _, hb, _ => by cases hb
  | .cls _, _, hb, _ => by cases hb
  | .lst _, _, hb, _ => by cases hb
  | .ins _ _, _, hb, _ => by cases hb
  | .dct _ _, _, hb, _ => by cases hb
  | .cell _, _, hb, _ => by cases hb
  | .scr _, _, hb, _ => by cases hb
theorem RepL.of_bareT {A' : List Addr} (c : Cells K C S A H Δ) : ∀ (ds : List D) {vs : List V}, bareTs ds = true → RepL K C S A' H vs ds → RepL K C S A H vs ds
  | [], _, _, h => by cases h; exact .nil
  | d :: ds, _, hb, h => by
    have hb' : (bareT d && bareTs ds) = true := hb
    rw [Bool.and_eq_true] at hb'
    cases h with
    | cons h r => exact .cons (Rep.of_bareT c d hb'.1 h) (RepL.of_bareT c ds hb'.2 r)
end
/-- slots that are lent: a cell's content, where no other cell stands in it -/
def lent1 (Δ : Store) : Option D → Option D
  | some d => if Z.below 0 (Z.thaw Δ d) = true then some (Z.thaw Δ d) else none
  | none => none
theorem Slots.lent {σ : L2.St} {Γ : Env} (c : Cells K C S A H Δ) (s : Slots K C S A H σ Γ) : Slots K C S [] H σ (Γ.map (lent1 Δ)) := by
  refine ⟨by rw [List.length_map]; exact s.len, fun i d h => ?_⟩
  rw [List.getElem?_map] at h
  cases e : Γ[i]? with
  | none => rw [e] at h; cases h
  | some o =>
    cases o with
    | none => rw [e] at h; cases h
    | some d0 =>
      rw [e] at h
      have h : lent1 Δ (some d0) = some d := by simpa using h
      unfold lent1 at h
      by_cases hb : Z.below 0 (Z.thaw Δ d0) = true
      · simp only [hb, if_true] at h
        cases h
        obtain ⟨v, h1, h2⟩ := s.at_ i d0 e
        exact ⟨v, h1, Rep.thw c d0 hb h2⟩
      · simp only [if_neg hb] at h; cases h
end
def zLend (z : ZE) : ZE := fun Γ Δ P => z (Γ.map (lent1 Δ)) [] fun d _ => bareT d = true ∧ P d Δ
def zLendT (z : ZT) : ZT := fun Γ Δ P => z (Γ.map (lent1 Δ)) [] fun b _ => P b Δ
section
variable {K : PySem.W.Frag} {C : CI} {X : Cx} {e : Expr} {ze : ZE} {zt : ZT}
theorem ref_lend {te : TE} (h : RefE K C te ze) : RefE K C te (zLend ze) := fun S A σ H Γ Δ P Q hs hc hz k =>
  h S [] σ H _ [] _ Q (Slots.lent hc hs) ⟨rfl, .nil, (fun a ha => nomatch ha), hc.as, (fun n a o h => nomatch h)⟩ hz fun v d A' H' Δ' e2 c2 r2 p2 => by
    have kp : ∀ a o, H a = some o → H' a = some o := fun a o h => e2.keep a o (fun q => nomatch q) h
    exact k v d A H' Δ (Ext.kept kp) (hc.kept kp) (Rep.of_bareT (hc.kept kp) d p2.1 r2) p2.2
theorem ref_lendT {tt : TT} (h : RefT K C tt zt) : RefT K C tt (zLendT zt) := fun S A σ H Γ Δ P Q hs hc hz k =>
  h S [] σ H _ [] _ Q (Slots.lent hc hs) ⟨rfl, .nil, (fun a ha => nomatch ha), hc.as, (fun n a o h => nomatch h)⟩ hz fun b A' H' Δ' e2 c2 p2 => by
    have kp : ∀ a o, H a = some o → H' a = some o := fun a o h => e2.keep a o (fun q => nomatch q) h
    exact k b A H' Δ (Ext.kept kp) (hc.kept kp) p2
theorem ez_lend (h : EZ C X e ze) : EZ C X e (zLend ze) := by
  obtain ⟨t, h1, h2⟩ := h.ex
  exact ⟨t, h1, ref_lend h2⟩
theorem tz_lend (h : TZ C X e zt) : TZ C X e (zLendT zt) := by
  obtain ⟨t, h1, h2⟩ := h.ex
  exact ⟨t, h1, ref_lendT h2⟩
theorem frD_bare {p q : Int} : bareT (.tup [.int p, .int q]) = true := rfl
end
/-! ### sorted of a list of ints; a list given to names -/
section
variable {C : CI} {X : Cx} {pos : Pos}
def zSortI : ZRC := fun ds Δ P => ∃ (d : D) (ns : List Int), ds = [d] ∧ lstD Δ d = some (ns.map D.int) ∧ ∀ ys : List Int, ys.Perm ns → ys.Pairwise (· ≤ ·) → P (.lst (ys.map D.int)) Δ
theorem cz_sortI : CallZ C X (.builtin "sorted") zSortI := ⟨_, cr_sortedI, fun S A H Δ xs ds P Q hc r hz k => by
  obtain ⟨d, ns, rfl, hd, q⟩ := hz
  obtain ⟨v, rfl, rv⟩ := one_rep r
  obtain ⟨pa, ys, rfl, hq, rr⟩ := Rep.lst_ hc rv hd
  obtain rfl := repL_int rr
  refine ⟨pa, ns, rfl, SqL.of hq, fun zs p h1 h2 hp => ?_⟩
  exact k _ _ A _ Δ (Ext.new hp) (hc.kept fun a o h => by rw [upd_ne (ne_of_none h hp)]; exact h) (.lst upd_same (hc.fresh hp) (hc.aside hp) (repL_ints zs)) (q zs h1 h2)⟩
def zgLst (n : Nat) (gs : ZGs) : ZG := fun d Γ Δ P => ∃ ds, d = .lst ds ∧ ds.length = n ∧ gs ds Γ Δ P
theorem gz_lst {es : List Expr} {k : Nat} {gs : TGs} {zs : ZGs} {n : Nat} (h : GsZ C X es gs zs) (hc : X.calm = true := by rfl) (hn : (assignEach es X.env).length = n := by rfl) (hst : (assignEach es X.env).findIdx? (·.1) = none := by rfl) : GZ C X (.Tuple es k pos) (gLst X.K n gs) (zgLst n zs) :=
  ⟨pg_lst hc h.pg hn hst, fun S A σ H Γ Δ v d P Q hs hc r hz k => by
    obtain ⟨ds, rfl, hl, p⟩ := hz
    cases r with
    | lst h1 h2 h3 r => exact ⟨_, _, rfl, SqL.of h1, by rw [r.length]; exact hl, h.ref S A σ H Γ Δ _ ds P Q hs hc r p k⟩⟩
end
end Z

namespace Bx
open PySem PySem.Spec PyProof.Rows L2 Z
/-! ### the text by places -/
def top (i : Nat) : Stmt := PySem.Challenge.pw_boxrows_k01_boxes_at_levels.main.body.getD i (.Pass ⟨0, 0, 0, 0⟩)
abbrev s__law_bag : Stmt := top 22
abbrev s__law_pick : Stmt := top 23
abbrev s__law_numbers : Stmt := top 29
abbrev s__law_rows : Stmt := top 30
abbrev s_is_int : Stmt := top 6
abbrev s_in_bounds : Stmt := top 15
abbrev s_are_box_numbers : Stmt := top 16
abbrev s_Box_d_init_d : Stmt := inClass (top 17) 0
abbrev s_Box_wish : Stmt := inClass (top 17) 1
abbrev s_Box_least : Stmt := inClass (top 17) 2
abbrev s_Box_most : Stmt := inClass (top 17) 3
abbrev s_Box_grow : Stmt := inClass (top 17) 4
abbrev s_Box_shrink : Stmt := inClass (top 17) 5
abbrev s_limited : Stmt := top 14
abbrev s_Box_own : Stmt := inClass (top 17) 6
abbrev s__law_order : Stmt := top 28
abbrev s__law_limited : Stmt := top 31
abbrev s__law_own : Stmt := top 32
abbrev s__law_ratio : Stmt := top 24
abbrev s__law_level_list : Stmt := top 37
abbrev s_is_fraction : Stmt := top 7
abbrev s_is_rational : Stmt := top 8
abbrev s_lowest : Stmt := top 10
abbrev s_weight_at : Stmt := top 18
abbrev s_scaled_size : Stmt := top 19
abbrev s_size_at : Stmt := top 20
abbrev s_as_fraction : Stmt := top 9
abbrev s_Box_d_call_d : Stmt := inClass (top 17) 7
abbrev s__law_size : Stmt := top 35
abbrev s_Box_d_eq_d : Stmt := inClass (top 17) 8
abbrev s__law_box_right : Stmt := top 38
abbrev s_law : Stmt := top 39
abbrev N__law_bag : List Str := ["cell"]
theorem sc__law_bag : FnScope ["cell"] ["cell"] (defScope s__law_bag) := ⟨rfl, rfl, rfl, by decide +kernel, rfl, by decide +kernel, by decide +kernel⟩
abbrev N__law_pick : List Str := ["bag", "many", "told", "first", "second"]
theorem sc__law_pick : FnScope ["bag", "many", "told", "first", "second"] ["bag", "many"] (defScope s__law_pick) := ⟨rfl, rfl, rfl, by decide +kernel, rfl, by decide +kernel, by decide +kernel⟩
abbrev N__law_numbers : List Str := ["bag", "wide", "heavy", "few", "many", "want", "weights", "up", "down", "limit"]
theorem sc__law_numbers : FnScope ["bag", "wide", "heavy", "few", "many", "want", "weights", "up", "down", "limit"] ["bag", "wide", "heavy"] (defScope s__law_numbers) := ⟨rfl, rfl, rfl, by decide +kernel, rfl, by decide +kernel, by decide +kernel⟩
abbrev N__law_rows : List Str := ["bag", "count", "wide", "heavy", "k"]
theorem sc__law_rows : FnScope ["bag", "count", "wide", "heavy", "k"] ["bag", "count"] (defScope s__law_rows) := ⟨rfl, rfl, rfl, by decide +kernel, rfl, by decide +kernel, by decide +kernel⟩
abbrev N_is_int : List Str := ["value"]
theorem sc_is_int : FnScope ["value"] ["value"] (defScope s_is_int) := ⟨rfl, rfl, rfl, by decide +kernel, rfl, by decide +kernel, by decide +kernel⟩
abbrev N_in_bounds : List Str := ["value", "top"]
theorem sc_in_bounds : FnScope ["value", "top"] ["value", "top"] (defScope s_in_bounds) := ⟨rfl, rfl, rfl, by decide +kernel, rfl, by decide +kernel, by decide +kernel⟩
abbrev N_are_box_numbers : List Str := ["wish", "least", "most", "grow", "shrink", "widths", "width", "weight"]
theorem sc_are_box_numbers : FnScope ["wish", "least", "most", "grow", "shrink", "widths", "width", "weight"] ["wish", "least", "most", "grow", "shrink"] (defScope s_are_box_numbers) := ⟨rfl, rfl, rfl, by decide +kernel, rfl, by decide +kernel, by decide +kernel⟩
abbrev N_Box_d_init_d : List Str := ["self", "wish", "least", "most", "grow", "shrink"]
theorem sc_Box_d_init_d : FnScope ["self", "wish", "least", "most", "grow", "shrink"] ["self", "wish", "least", "most", "grow", "shrink"] (defScope s_Box_d_init_d) := ⟨rfl, rfl, rfl, by decide +kernel, rfl, by decide +kernel, by decide +kernel⟩
abbrev N_Box_wish : List Str := ["self"]
theorem sc_Box_wish : FnScope ["self"] ["self"] (defScope s_Box_wish) := ⟨rfl, rfl, rfl, by decide +kernel, rfl, by decide +kernel, by decide +kernel⟩
abbrev N_Box_least : List Str := ["self"]
theorem sc_Box_least : FnScope ["self"] ["self"] (defScope s_Box_least) := ⟨rfl, rfl, rfl, by decide +kernel, rfl, by decide +kernel, by decide +kernel⟩
abbrev N_Box_most : List Str := ["self"]
theorem sc_Box_most : FnScope ["self"] ["self"] (defScope s_Box_most) := ⟨rfl, rfl, rfl, by decide +kernel, rfl, by decide +kernel, by decide +kernel⟩
abbrev N_Box_grow : List Str := ["self"]
theorem sc_Box_grow : FnScope ["self"] ["self"] (defScope s_Box_grow) := ⟨rfl, rfl, rfl, by decide +kernel, rfl, by decide +kernel, by decide +kernel⟩
abbrev N_Box_shrink : List Str := ["self"]
theorem sc_Box_shrink : FnScope ["self"] ["self"] (defScope s_Box_shrink) := ⟨rfl, rfl, rfl, by decide +kernel, rfl, by decide +kernel, by decide +kernel⟩
abbrev N_limited : List Str := ["value", "least", "most"]
theorem sc_limited : FnScope ["value", "least", "most"] ["value", "least", "most"] (defScope s_limited) := ⟨rfl, rfl, rfl, by decide +kernel, rfl, by decide +kernel, by decide +kernel⟩
abbrev N_Box_own : List Str := ["self"]
theorem sc_Box_own : FnScope ["self"] ["self"] (defScope s_Box_own) := ⟨rfl, rfl, rfl, by decide +kernel, rfl, by decide +kernel, by decide +kernel⟩
abbrev N__law_order : List Str := ["one", "two"]
theorem sc__law_order : FnScope ["one", "two"] ["one", "two"] (defScope s__law_order) := ⟨rfl, rfl, rfl, by decide +kernel, rfl, by decide +kernel, by decide +kernel⟩
abbrev N__law_limited : List Str := ["number", "row"]
theorem sc__law_limited : FnScope ["number", "row"] ["number", "row"] (defScope s__law_limited) := ⟨rfl, rfl, rfl, by decide +kernel, rfl, by decide +kernel, by decide +kernel⟩
abbrev N__law_own : List Str := ["row"]
theorem sc__law_own : FnScope ["row"] ["row"] (defScope s__law_own) := ⟨rfl, rfl, rfl, by decide +kernel, rfl, by decide +kernel, by decide +kernel⟩
abbrev N__law_ratio : List Str := ["above", "below", "one", "two"]
theorem sc__law_ratio : FnScope ["above", "below", "one", "two"] ["above", "below"] (defScope s__law_ratio) := ⟨rfl, rfl, rfl, by decide +kernel, rfl, by decide +kernel, by decide +kernel⟩
abbrev N__law_level_list : List Str := ["bag", "row", "found", "sign", "bound", "weight"]
theorem sc__law_level_list : FnScope ["bag", "row", "found", "sign", "bound", "weight"] ["bag", "row"] (defScope s__law_level_list) := ⟨rfl, rfl, rfl, by decide +kernel, rfl, by decide +kernel, by decide +kernel⟩
abbrev N_is_fraction : List Str := ["value", "p", "q"]
theorem sc_is_fraction : FnScope ["value", "p", "q"] ["value"] (defScope s_is_fraction) := ⟨rfl, rfl, rfl, by decide +kernel, rfl, by decide +kernel, by decide +kernel⟩
abbrev N_is_rational : List Str := ["value"]
theorem sc_is_rational : FnScope ["value"] ["value"] (defScope s_is_rational) := ⟨rfl, rfl, rfl, by decide +kernel, rfl, by decide +kernel, by decide +kernel⟩
abbrev N_lowest : List Str := ["p", "q", "common"]
theorem sc_lowest : FnScope ["p", "q", "common"] ["p", "q"] (defScope s_lowest) := ⟨rfl, rfl, rfl, by decide +kernel, rfl, by decide +kernel, by decide +kernel⟩
abbrev N_weight_at : List Str := ["box", "level"]
theorem sc_weight_at : FnScope ["box", "level"] ["box", "level"] (defScope s_weight_at) := ⟨rfl, rfl, rfl, by decide +kernel, rfl, by decide +kernel, by decide +kernel⟩
abbrev N_scaled_size : List Str := ["box", "level", "p", "q", "most"]
theorem sc_scaled_size : FnScope ["box", "level", "p", "q", "most"] ["box", "level"] (defScope s_scaled_size) := ⟨rfl, rfl, rfl, by decide +kernel, rfl, by decide +kernel, by decide +kernel⟩
abbrev N_size_at : List Str := ["box", "level"]
theorem sc_size_at : FnScope ["box", "level"] ["box", "level"] (defScope s_size_at) := ⟨rfl, rfl, rfl, by decide +kernel, rfl, by decide +kernel, by decide +kernel⟩
abbrev N_as_fraction : List Str := ["value"]
theorem sc_as_fraction : FnScope ["value"] ["value"] (defScope s_as_fraction) := ⟨rfl, rfl, rfl, by decide +kernel, rfl, by decide +kernel, by decide +kernel⟩
abbrev N_Box_d_call_d : List Str := ["self", "level"]
theorem sc_Box_d_call_d : FnScope ["self", "level"] ["self", "level"] (defScope s_Box_d_call_d) := ⟨rfl, rfl, rfl, by decide +kernel, rfl, by decide +kernel, by decide +kernel⟩
abbrev N__law_size : List Str := ["row", "level", "weight"]
theorem sc__law_size : FnScope ["row", "level", "weight"] ["row", "level"] (defScope s__law_size) := ⟨rfl, rfl, rfl, by decide +kernel, rfl, by decide +kernel, by decide +kernel⟩
abbrev N_Box_d_eq_d : List Str := ["self", "other"]
theorem sc_Box_d_eq_d : FnScope ["self", "other"] ["self", "other"] (defScope s_Box_d_eq_d) := ⟨rfl, rfl, rfl, by decide +kernel, rfl, by decide +kernel, by decide +kernel⟩
abbrev N__law_box_right : List Str := ["bag", "row", "told", "again", "found", "level", "named", "mixed", "k", "part", "other", "odd"]
theorem sc__law_box_right : FnScope ["bag", "row", "told", "again", "found", "level", "named", "mixed", "k", "part", "other", "odd"] ["bag", "row"] (defScope s__law_box_right) := ⟨rfl, rfl, rfl, by decide +kernel, rfl, by decide +kernel, by decide +kernel⟩
abbrev N_law : List Str := ["script", "cell", "bag", "row", "great"]
theorem sc_law : FnScope ["script", "cell", "bag", "row", "great"] ["script"] (defScope s_law) := ⟨rfl, rfl, rfl, by decide +kernel, rfl, by decide +kernel, by decide +kernel⟩
/-! ### the readings over data -/
def nmsOf : Nat → List Str
  | 0 => ["_wish", "_least", "_most", "_grow", "_shrink"]
  | _ => []
section
/-- _law_bag(cell); slots 0:cell -/
def z__law_bag (K : PySem.W.Frag) (C : CI) : ZS := zRet (zLstC (zCons (zCB zMax2 (zCons (zC (.int 0)) (zCons (zOp (zI0 fun i j => .int (i - j)) (zVar 0) (zOp (zI CPow fun i j => .int (i ^ j.toNat)) (zC (.int 10)) (zC (.int 18)))) (zNil)))) (zCons (zVar 0) (zCons (zC (.int 0)) (zNil)))))
def W__law_bag (K : PySem.W.Frag) (C : CI) : ZRC := fun ds Δ P => ds.length = 1 ∧ z__law_bag K C { nx := fun _ Δ' => P .non Δ', rt := P } (startZ ["cell"] ds) Δ
/-- _law_pick(bag, many); slots 0:bag 1:many 2:told 3:first 4:second -/
def z__law_pick (K : PySem.W.Frag) (C : CI) : ZS := zSeq (zAsg (zOp (zI0 fun i j => .int (i + j)) (zOp zIx (zVar 0) (zC (.int 2))) (zC (.int 1))) (zgSub (zVar 0) (zC (.int 2))))
    (zSeq (zIfS (zTest (zOp (zI0 fun i j => .bl (decide (j < i))) (zOp zIx (zVar 0) (zC (.int 0))) (zC (.int 0)))) (zSeq (zAsg (zOp (zI (fun _ j => 0 < j) fun i j => .int (i % j)) (zOp zIx (zVar 0) (zC (.int 0))) (zVar 1)) (zgName 2))
    (zSeq (zAsg (zOp (zI CDivW fun i j => .int (i / j)) (zOp zIx (zVar 0) (zC (.int 0))) (zVar 1)) (zgSub (zVar 0) (zC (.int 0))))
    (zRet (zVar 2)))) (zNext))
    (zSeq (zAsg (zOp (zI (fun _ j => 0 < j) fun i j => .int (i % j)) (zOp (zI0 fun i j => .int (i + j)) (zOp (zI0 fun i j => .int (i + j)) (zOp (zI MulOk fun i j => .int (i * j)) (zOp (zI (fun _ j => 0 < j) fun i j => .int (i % j)) (zOp zIx (zVar 0) (zC (.int 1))) (zC (.int 2147483629))) (zC (.int 48271))) (zOp (zI MulOk fun i j => .int (i * j)) (zOp zIx (zVar 0) (zC (.int 2))) (zC (.int 69621)))) (zC (.int 12345))) (zC (.int 2147483647))) (zgName 3))
    (zSeq (zAsg (zOp (zI (fun _ j => 0 < j) fun i j => .int (i % j)) (zOp (zI0 fun i j => .int (i + j)) (zOp (zI MulOk fun i j => .int (i * j)) (zVar 3) (zVar 3)) (zOp (zI MulOk fun i j => .int (i * j)) (zOp zIx (zVar 0) (zC (.int 2))) (zC (.int 40692)))) (zC (.int 2147483587))) (zgName 4))
    (zRet (zOp (zI (fun _ j => 0 < j) fun i j => .int (i % j)) (zOp (zI CDivW fun i j => .int (i / j)) (zOp (zI0 fun i j => .int (i + j)) (zOp (zI MulOk fun i j => .int (i * j)) (zVar 3) (zC (.int 2147483587))) (zVar 4)) (zC (.int 32))) (zVar 1))))))
def W__law_pick (K : PySem.W.Frag) (C : CI) : ZRC := fun ds Δ P => ds.length = 2 ∧ z__law_pick K C { nx := fun _ Δ' => P .non Δ', rt := P } (startZ ["bag", "many", "told", "first", "second"] ds) Δ
/-- _law_numbers(bag, wide, heavy); slots 0:bag 1:wide 2:heavy 3:few 4:many 5:want 6:weights 7:up 8:down 9:limit -/
def z__law_numbers (K : PySem.W.Frag) (C : CI) : ZS := zSeq (zAsg (zOp zIx (zLst (zCons (zC (.int 0)) (zCons (zCall (W__law_pick K C) [] (zCons (zVar 0) (zCons (zVar 1) (zNil)))) (zCons (zCall (W__law_pick K C) [] (zCons (zVar 0) (zCons (zVar 1) (zNil)))) (zNil))))) (zCall (W__law_pick K C) [] (zCons (zVar 0) (zCons (zC (.int 3)) (zNil))))) (zgName 3))
    (zSeq (zAsg (zOp zIx (zLst (zCons (zC .non) (zCons (zVar 3) (zCons (zOp (zI0 fun i j => .int (i + j)) (zVar 3) (zCall (W__law_pick K C) [] (zCons (zVar 0) (zCons (zVar 1) (zNil))))) (zCons (zOp (zI0 fun i j => .int (i + j)) (zVar 3) (zCall (W__law_pick K C) [] (zCons (zVar 0) (zCons (zC (.int 3)) (zNil))))) (zCons (zC .non) (zNil))))))) (zCall (W__law_pick K C) [] (zCons (zVar 0) (zCons (zC (.int 5)) (zNil))))) (zgName 4))
    (zSeq (zAsg (zOp zIx (zLst (zCons (zCall (W__law_pick K C) [] (zCons (zVar 0) (zCons (zVar 1) (zNil)))) (zCons (zC (.int 0)) (zCons (zVar 3) (zCons (zOp (zI0 fun i j => .int (i + j)) (zVar 3) (zCall (W__law_pick K C) [] (zCons (zVar 0) (zCons (zVar 1) (zNil))))) (zCons (zCall (W__law_pick K C) [] (zCons (zVar 0) (zCons (zOp (zI MulOk fun i j => .int (i * j)) (zC (.int 2)) (zVar 1)) (zNil)))) (zNil))))))) (zCall (W__law_pick K C) [] (zCons (zVar 0) (zCons (zC (.int 5)) (zNil))))) (zgName 5))
    (zSeq (zAsg (zLst (zCons (zC (.int 0)) (zCons (zC (.int 1)) (zCons (zCall (W__law_pick K C) [] (zCons (zVar 0) (zCons (zC (.int 4)) (zNil)))) (zCons (zCall (W__law_pick K C) [] (zCons (zVar 0) (zCons (zOp (zI0 fun i j => .int (i + j)) (zVar 2) (zC (.int 1))) (zNil)))) (zCons (zVar 2) (zNil))))))) (zgName 6))
    (zSeq (zPar 7 8 (zCons (zOp zIx (zVar 6) (zCall (W__law_pick K C) [] (zCons (zVar 0) (zCons (zC (.int 5)) (zNil))))) (zCons (zOp zIx (zVar 6) (zCall (W__law_pick K C) [] (zCons (zVar 0) (zCons (zC (.int 5)) (zNil))))) (zNil))))
    (zSeq (zAsg (zOp (zI CPow fun i j => .int (i ^ j.toNat)) (zC (.int 10)) (zC (.int 30))) (zgName 9))
    (zRet (zTup (zCons (zCB zMin2 (zCons (zVar 5) (zCons (zVar 9) (zNil)))) (zCons (zCB zMin2 (zCons (zVar 3) (zCons (zVar 9) (zNil)))) (zCons (zIf (zTest (zOp zIsN (zVar 4) (zC .non))) (zC .non) (zCB zMin2 (zCons (zVar 4) (zCons (zVar 9) (zNil))))) (zCons (zVar 7) (zCons (zVar 8) (zNil)))))))))))))
def W__law_numbers (K : PySem.W.Frag) (C : CI) : ZRC := fun ds Δ P => ds.length = 3 ∧ z__law_numbers K C { nx := fun _ Δ' => P .non Δ', rt := P } (startZ ["bag", "wide", "heavy", "few", "many", "want", "weights", "up", "down", "limit"] ds) Δ
/-- _law_rows(bag, count); slots 0:bag 1:count 2:wide 3:heavy 4:k -/
def z__law_rows (K : PySem.W.Frag) (C : CI) : ZS := zSeq (zAsg (zOp zIx (zLst (zCons (zC (.int 4)) (zCons (zC (.int 12)) (zCons (zC (.int 100)) (zCons (zOp (zI CPow fun i j => .int (i ^ j.toNat)) (zC (.int 10)) (zC (.int 30))) (zNil)))))) (zCall (W__law_pick K C) [] (zCons (zVar 0) (zCons (zC (.int 4)) (zNil))))) (zgName 2))
    (zSeq (zAsg (zOp zIx (zLst (zCons (zC (.int 3)) (zCons (zC (.int 9)) (zCons (zOp (zI CPow fun i j => .int (i ^ j.toNat)) (zC (.int 10)) (zC (.int 6))) (zNil))))) (zCall (W__law_pick K C) [] (zCons (zVar 0) (zCons (zC (.int 3)) (zNil))))) (zgName 3))
    (zRet (zLc (ziR1 (zCons (zOp (zI0 fun i j => .int (i + j)) (zC (.int 1)) (zCall (W__law_pick K C) [] (zCons (zVar 0) (zCons (zVar 1) (zNil))))) (zNil))) (zgName 4) (zYes) (zCall (W__law_numbers K C) [] (zCons (zVar 0) (zCons (zVar 2) (zCons (zVar 3) (zNil))))) [4])))
def W__law_rows (K : PySem.W.Frag) (C : CI) : ZRC := fun ds Δ P => ds.length = 2 ∧ z__law_rows K C { nx := fun _ Δ' => P .non Δ', rt := P } (startZ ["bag", "count", "wide", "heavy", "k"] ds) Δ
/-- is_int(value); slots 0:value -/
def z_is_int (K : PySem.W.Frag) (C : CI) : ZS := zRet (zAndV (zCB (zIsi K C) (zCons (zVar 0) (zCons (zC (.ty "int")) (zNil)))) (zNotV (zCB (zIsi K C) (zCons (zVar 0) (zCons (zC (.ty "bool")) (zNil))))))
def W_is_int (K : PySem.W.Frag) (C : CI) : ZRC := fun ds Δ P => ds.length = 1 ∧ z_is_int K C { nx := fun _ Δ' => P .non Δ', rt := P } (startZ ["value"] ds) Δ
/-- in_bounds(value, top); slots 0:value 1:top -/
def z_in_bounds (K : PySem.W.Frag) (C : CI) : ZS := zRet (zAndV (zCall (W_is_int K C) [] (zCons (zVar 0) (zNil))) (zChain (zI0 fun i j => .bl (decide (i ≤ j))) (zI0 fun i j => .bl (decide (i ≤ j))) (zC (.int 0)) (zVar 0) (zVar 1)))
def W_in_bounds (K : PySem.W.Frag) (C : CI) : ZRC := fun ds Δ P => ds.length = 2 ∧ z_in_bounds K C { nx := fun _ Δ' => P .non Δ', rt := P } (startZ ["value", "top"] ds) Δ
/-- are_box_numbers(wish, least, most, grow, shrink); slots 0:wish 1:least 2:most 3:grow 4:shrink 5:widths 6:width 7:weight -/
def z_are_box_numbers (K : PySem.W.Frag) (C : CI) : ZS := zSeq (zAsg (zIf (zTest (zOp zIsN (zVar 2) (zC .non))) (zLst (zCons (zVar 0) (zCons (zVar 1) (zNil)))) (zLst (zCons (zVar 0) (zCons (zVar 1) (zCons (zVar 2) (zNil)))))) (zgName 5))
    (zRet (zAndV (zCB zAll (zCons (zLc (ziList (zVar 5)) (zgName 6) (zYes) (zCall (W_in_bounds K C) [] (zCons (zVar 6) (zCons (zC (.int 1000000000000000000000000000000)) (zNil)))) [6]) (zNil))) (zAndV (zCB zAll (zCons (zLc (ziTup (zTup (zCons (zVar 3) (zCons (zVar 4) (zNil))))) (zgName 7) (zYes) (zCall (W_in_bounds K C) [] (zCons (zVar 7) (zCons (zC (.int 1000000)) (zNil)))) [7]) (zNil))) (zOrV (zOp zIsN (zVar 2) (zC .non)) (zOp (zI0 fun i j => .bl (decide (i ≤ j))) (zVar 1) (zVar 2))))))
def W_are_box_numbers (K : PySem.W.Frag) (C : CI) : ZRC := fun ds Δ P => ds.length = 5 ∧ z_are_box_numbers K C { nx := fun _ Δ' => P .non Δ', rt := P } (startZ ["wish", "least", "most", "grow", "shrink", "widths", "width", "weight"] ds) Δ
/-- Box.__init__(self, wish, least, most, grow, shrink); slots 0:self 1:wish 2:least 3:most 4:grow 5:shrink -/
def z_Box_d_init_d (K : PySem.W.Frag) (C : CI) : ZS := zSeq (zIfS (zNot (zTest (zCall (W_are_box_numbers K C) [] (zCons (zVar 1) (zCons (zVar 2) (zCons (zVar 3) (zCons (zVar 4) (zCons (zVar 5) (zNil))))))))) (zNever) (zNext))
    (zSeq (zSetF 0 (Str.ofString "_wish") (zVar 0) (zVar 1))
    (zSeq (zSetF 0 (Str.ofString "_least") (zVar 0) (zVar 2))
    (zSeq (zSetF 0 (Str.ofString "_most") (zVar 0) (zVar 3))
    (zSeq (zSetF 0 (Str.ofString "_grow") (zVar 0) (zVar 4))
    (zSetF 0 (Str.ofString "_shrink") (zVar 0) (zVar 5))))))
def W_Box_d_init_d (K : PySem.W.Frag) (C : CI) : ZRC := fun ds Δ P => ds.length = 6 ∧ z_Box_d_init_d K C { nx := fun _ Δ' => P .non Δ', rt := P } (startZ ["self", "wish", "least", "most", "grow", "shrink"] ds) Δ
/-- Box.wish(self); slots 0:self -/
def z_Box_wish (K : PySem.W.Frag) (C : CI) : ZS := zRet (zFld C 0 (Str.ofString "_wish") (zVar 0))
def W_Box_wish (K : PySem.W.Frag) (C : CI) : ZRC := fun ds Δ P => ds.length = 1 ∧ z_Box_wish K C { nx := fun _ Δ' => P .non Δ', rt := P } (startZ ["self"] ds) Δ
/-- Box.least(self); slots 0:self -/
def z_Box_least (K : PySem.W.Frag) (C : CI) : ZS := zRet (zFld C 0 (Str.ofString "_least") (zVar 0))
def W_Box_least (K : PySem.W.Frag) (C : CI) : ZRC := fun ds Δ P => ds.length = 1 ∧ z_Box_least K C { nx := fun _ Δ' => P .non Δ', rt := P } (startZ ["self"] ds) Δ
/-- Box.most(self); slots 0:self -/
def z_Box_most (K : PySem.W.Frag) (C : CI) : ZS := zRet (zFld C 0 (Str.ofString "_most") (zVar 0))
def W_Box_most (K : PySem.W.Frag) (C : CI) : ZRC := fun ds Δ P => ds.length = 1 ∧ z_Box_most K C { nx := fun _ Δ' => P .non Δ', rt := P } (startZ ["self"] ds) Δ
/-- Box.grow(self); slots 0:self -/
def z_Box_grow (K : PySem.W.Frag) (C : CI) : ZS := zRet (zFld C 0 (Str.ofString "_grow") (zVar 0))
def W_Box_grow (K : PySem.W.Frag) (C : CI) : ZRC := fun ds Δ P => ds.length = 1 ∧ z_Box_grow K C { nx := fun _ Δ' => P .non Δ', rt := P } (startZ ["self"] ds) Δ
/-- Box.shrink(self); slots 0:self -/
def z_Box_shrink (K : PySem.W.Frag) (C : CI) : ZS := zRet (zFld C 0 (Str.ofString "_shrink") (zVar 0))
def W_Box_shrink (K : PySem.W.Frag) (C : CI) : ZRC := fun ds Δ P => ds.length = 1 ∧ z_Box_shrink K C { nx := fun _ Δ' => P .non Δ', rt := P } (startZ ["self"] ds) Δ
/-- limited(value, least, most); slots 0:value 1:least 2:most -/
def z_limited (K : PySem.W.Frag) (C : CI) : ZS := zSeq (zIfS (zTest (zOp (zI0 fun i j => .bl (decide (i < j))) (zVar 0) (zVar 1))) (zRet (zVar 1)) (zNext))
    (zSeq (zIfS (zAnd (zTest (zOp zNotN (zVar 2) (zC .non))) (zTest (zOp (zI0 fun i j => .bl (decide (j < i))) (zVar 0) (zVar 2)))) (zRet (zVar 2)) (zNext))
    (zRet (zVar 0)))
def W_limited (K : PySem.W.Frag) (C : CI) : ZRC := fun ds Δ P => ds.length = 3 ∧ z_limited K C { nx := fun _ Δ' => P .non Δ', rt := P } (startZ ["value", "least", "most"] ds) Δ
/-- Box.own(self); slots 0:self -/
def z_Box_own (K : PySem.W.Frag) (C : CI) : ZS := zRet (zCall (W_limited K C) [] (zCons (zFld C 0 (Str.ofString "_wish") (zVar 0)) (zCons (zFld C 0 (Str.ofString "_least") (zVar 0)) (zCons (zFld C 0 (Str.ofString "_most") (zVar 0)) (zNil)))))
def W_Box_own (K : PySem.W.Frag) (C : CI) : ZRC := fun ds Δ P => ds.length = 1 ∧ z_Box_own K C { nx := fun _ Δ' => P .non Δ', rt := P } (startZ ["self"] ds) Δ
/-- _law_order(one, two); slots 0:one 1:two -/
def z__law_order (K : PySem.W.Frag) (C : CI) : ZS := zRet (zOp (zI0 fun i j => .int (i - j)) (zOp (zI MulOk fun i j => .int (i * j)) (zOp zIx (zVar 0) (zC (.int 0))) (zOp zIx (zVar 1) (zC (.int 1)))) (zOp (zI MulOk fun i j => .int (i * j)) (zOp zIx (zVar 1) (zC (.int 0))) (zOp zIx (zVar 0) (zC (.int 1)))))
def W__law_order (K : PySem.W.Frag) (C : CI) : ZRC := fun ds Δ P => ds.length = 2 ∧ z__law_order K C { nx := fun _ Δ' => P .non Δ', rt := P } (startZ ["one", "two"] ds) Δ
/-- _law_limited(number, row); slots 0:number 1:row -/
def z__law_limited (K : PySem.W.Frag) (C : CI) : ZS := zSeq (zIfS (zTest (zOp (zI0 fun i j => .bl (decide (i < j))) (zCall (W__law_order K C) [] (zCons (zVar 0) (zCons (zTup (zCons (zOp zIx (zVar 1) (zC (.int 1))) (zCons (zC (.int 1)) (zNil)))) (zNil)))) (zC (.int 0)))) (zRet (zTup (zCons (zOp zIx (zVar 1) (zC (.int 1))) (zCons (zC (.int 1)) (zNil))))) (zNext))
    (zSeq (zIfS (zAnd (zTest (zOp zNotN (zOp zIx (zVar 1) (zC (.int 2))) (zC .non))) (zTest (zOp (zI0 fun i j => .bl (decide (j < i))) (zCall (W__law_order K C) [] (zCons (zVar 0) (zCons (zTup (zCons (zOp zIx (zVar 1) (zC (.int 2))) (zCons (zC (.int 1)) (zNil)))) (zNil)))) (zC (.int 0))))) (zRet (zTup (zCons (zOp zIx (zVar 1) (zC (.int 2))) (zCons (zC (.int 1)) (zNil))))) (zNext))
    (zRet (zVar 0)))
def W__law_limited (K : PySem.W.Frag) (C : CI) : ZRC := fun ds Δ P => ds.length = 2 ∧ z__law_limited K C { nx := fun _ Δ' => P .non Δ', rt := P } (startZ ["number", "row"] ds) Δ
/-- _law_own(row); slots 0:row -/
def z__law_own (K : PySem.W.Frag) (C : CI) : ZS := zRet (zOp zIx (zCall (W__law_limited K C) [] (zCons (zTup (zCons (zOp zIx (zVar 0) (zC (.int 0))) (zCons (zC (.int 1)) (zNil)))) (zCons (zVar 0) (zNil)))) (zC (.int 0)))
def W__law_own (K : PySem.W.Frag) (C : CI) : ZRC := fun ds Δ P => ds.length = 1 ∧ z__law_own K C { nx := fun _ Δ' => P .non Δ', rt := P } (startZ ["row"] ds) Δ
/-- _law_ratio(above, below); slots 0:above 1:below 2:one 3:two -/
def z__law_ratio (K : PySem.W.Frag) (C : CI) : ZS := zSeq (zPar 2 3 (zCons (zCB zAbs (zCons (zVar 0) (zNil))) (zCons (zCB zAbs (zCons (zVar 1) (zNil))) (zNil))))
    (zSeq (zWhile (zTest (zOp (zI0 fun i j => .bl (decide (j < i))) (zVar 3) (zC (.int 0)))) (zPar 2 3 (zCons (zVar 3) (zCons (zOp (zI (fun _ j => 0 < j) fun i j => .int (i % j)) (zVar 2) (zVar 3)) (zNil)))))
    (zSeq (zIfS (zTest (zOp (zI0 fun i j => .bl (decide (i < j))) (zVar 1) (zC (.int 0)))) (zPar 0 1 (zCons (zOp (zI0 fun i j => .int (i - j)) (zC (.int 0)) (zVar 0)) (zCons (zOp (zI0 fun i j => .int (i - j)) (zC (.int 0)) (zVar 1)) (zNil)))) (zNext))
    (zRet (zTup (zCons (zOp (zI CDivW fun i j => .int (i / j)) (zVar 0) (zVar 2)) (zCons (zOp (zI CDivW fun i j => .int (i / j)) (zVar 1) (zVar 2)) (zNil)))))))
def W__law_ratio (K : PySem.W.Frag) (C : CI) : ZRC := fun ds Δ P => ds.length = 2 ∧ z__law_ratio K C { nx := fun _ Δ' => P .non Δ', rt := P } (startZ ["above", "below", "one", "two"] ds) Δ
/-- _law_level_list(bag, row); slots 0:bag 1:row 2:found 3:sign 4:bound 5:weight -/
def z__law_level_list (K : PySem.W.Frag) (C : CI) : ZS := zSeq (zAsg (zLstC (zCons (zTup (zCons (zC (.int 0)) (zCons (zC (.int 1)) (zNil)))) (zCons (zTup (zCons (zC (.int 1)) (zCons (zC (.int 1)) (zNil)))) (zCons (zTup (zCons (zUn zNeg (zC (.int 1))) (zCons (zC (.int 1)) (zNil)))) (zCons (zCall (W__law_ratio K C) [] (zCons (zOp (zI0 fun i j => .int (i - j)) (zCall (W__law_pick K C) [] (zCons (zVar 0) (zCons (zC (.int 99)) (zNil)))) (zC (.int 50))) (zCons (zOp (zI0 fun i j => .int (i + j)) (zC (.int 1)) (zCall (W__law_pick K C) [] (zCons (zVar 0) (zCons (zC (.int 9)) (zNil))))) (zNil)))) (zNil)))))) (zgName 2))
    (zSeq (zAsg (zOp (zI0 fun i j => .int (i - j)) (zOp (zI MulOk fun i j => .int (i * j)) (zC (.int 2)) (zCall (W__law_pick K C) [] (zCons (zVar 0) (zCons (zC (.int 2)) (zNil))))) (zC (.int 1))) (zgName 3))
    (zSeq (zDrop (zAppend (zVar 2) (zCons (zCall (W__law_ratio K C) [] (zCons (zOp (zI MulOk fun i j => .int (i * j)) (zVar 3) (zCall (W__law_pick K C) [] (zCons (zVar 0) (zCons (zOp (zI CPow fun i j => .int (i ^ j.toNat)) (zC (.int 10)) (zC (.int 40))) (zNil))))) (zCons (zOp (zI0 fun i j => .int (i + j)) (zC (.int 1)) (zCall (W__law_pick K C) [] (zCons (zVar 0) (zCons (zOp (zI CPow fun i j => .int (i ^ j.toNat)) (zC (.int 10)) (zC (.int 9))) (zNil))))) (zNil)))) (zNil))))
    (zSeq (zDrop (zAppend (zVar 2) (zCons (zTup (zCons (zOp (zI MulOk fun i j => .int (i * j)) (zVar 3) (zOp (zI0 fun i j => .int (i - j)) (zOp (zI MulOk fun i j => .int (i * j)) (zOp (zI CPow fun i j => .int (i ^ j.toNat)) (zC (.int 10)) (zC (.int 64))) (zOp (zI CPow fun i j => .int (i ^ j.toNat)) (zC (.int 10)) (zC (.int 35)))) (zCall (W__law_pick K C) [] (zCons (zVar 0) (zCons (zOp (zI CPow fun i j => .int (i ^ j.toNat)) (zC (.int 10)) (zC (.int 30))) (zNil)))))) (zCons (zC (.int 1)) (zNil)))) (zNil))))
    (zSeq (zFor (ziList (zLst (zCons (zOp zIx (zVar 1) (zC (.int 1))) (zCons (zOp zIx (zVar 1) (zC (.int 2))) (zNil))))) (zgName 4) (zFor (ziList (zLst (zCons (zOp zIx (zVar 1) (zC (.int 3))) (zCons (zOp zIx (zVar 1) (zC (.int 4))) (zNil))))) (zgName 5) (zIfS (zAnd (zTest (zOp zNotN (zVar 4) (zC .non))) (zTest (zOp (zI0 fun i j => .bl (decide (j < i))) (zVar 5) (zC (.int 0))))) (zSeq (zDrop (zAppend (zVar 2) (zCons (zCall (W__law_ratio K C) [] (zCons (zOp (zI0 fun i j => .int (i - j)) (zVar 4) (zOp zIx (zVar 1) (zC (.int 0)))) (zCons (zVar 5) (zNil)))) (zNil))))
    (zDrop (zAppend (zVar 2) (zCons (zCall (W__law_ratio K C) [] (zCons (zOp (zI0 fun i j => .int (i - j)) (zOp (zI0 fun i j => .int (i + j)) (zOp (zI0 fun i j => .int (i - j)) (zVar 4) (zOp zIx (zVar 1) (zC (.int 0)))) (zC (.int 1))) (zOp (zI MulOk fun i j => .int (i * j)) (zC (.int 2)) (zCall (W__law_pick K C) [] (zCons (zVar 0) (zCons (zC (.int 2)) (zNil)))))) (zCons (zVar 5) (zNil)))) (zNil))))) (zNext))))
    (zRet (zVar 2))))))
def W__law_level_list (K : PySem.W.Frag) (C : CI) : ZRC := fun ds Δ P => ds.length = 2 ∧ z__law_level_list K C { nx := fun _ Δ' => P .non Δ', rt := P } (startZ ["bag", "row", "found", "sign", "bound", "weight"] ds) Δ
/-- is_fraction(value); slots 0:value 1:p 2:q -/
def z_is_fraction (K : PySem.W.Frag) (C : CI) : ZS := zSeq (zIfS (zOr (zNot (zTest (zCB (zIsi K C) (zCons (zVar 0) (zCons (zC (.ty "tuple")) (zNil)))))) (zTest (zOp zNe (zCB zLen (zCons (zVar 0) (zNil))) (zC (.int 2))))) (zRet (zC (.bl false))) (zNext))
    (zSeq (zAsg (zVar 0) (zgTup 2 (zgCons (zgName 1) (zgCons (zgName 2) (zgNil)))))
    (zRet (zAndV (zCall (W_is_int K C) [] (zCons (zVar 1) (zNil))) (zAndV (zCall (W_is_int K C) [] (zCons (zVar 2) (zNil))) (zAndV (zOp (zI0 fun i j => .bl (decide (j ≤ i))) (zVar 2) (zC (.int 1))) (zOp zEq (zCB zGcd (zCons (zVar 1) (zCons (zVar 2) (zNil)))) (zC (.int 1))))))))
def W_is_fraction (K : PySem.W.Frag) (C : CI) : ZRC := fun ds Δ P => ds.length = 1 ∧ z_is_fraction K C { nx := fun _ Δ' => P .non Δ', rt := P } (startZ ["value", "p", "q"] ds) Δ
/-- is_rational(value); slots 0:value -/
def z_is_rational (K : PySem.W.Frag) (C : CI) : ZS := zRet (zOrV (zCall (W_is_int K C) [] (zCons (zVar 0) (zNil))) (zCall (W_is_fraction K C) [] (zCons (zVar 0) (zNil))))
def W_is_rational (K : PySem.W.Frag) (C : CI) : ZRC := fun ds Δ P => ds.length = 1 ∧ z_is_rational K C { nx := fun _ Δ' => P .non Δ', rt := P } (startZ ["value"] ds) Δ
/-- lowest(p, q); slots 0:p 1:q 2:common -/
def z_lowest (K : PySem.W.Frag) (C : CI) : ZS := zSeq (zAsg (zCB zGcd (zCons (zVar 0) (zCons (zVar 1) (zNil)))) (zgName 2))
    (zRet (zTup (zCons (zOp (zI CDivW fun i j => .int (i / j)) (zVar 0) (zVar 2)) (zCons (zOp (zI CDivW fun i j => .int (i / j)) (zVar 1) (zVar 2)) (zNil)))))
def W_lowest (K : PySem.W.Frag) (C : CI) : ZRC := fun ds Δ P => ds.length = 2 ∧ z_lowest K C { nx := fun _ Δ' => P .non Δ', rt := P } (startZ ["p", "q", "common"] ds) Δ
/-- weight_at(box, level); slots 0:box 1:level -/
def z_weight_at (K : PySem.W.Frag) (C : CI) : ZS := zRet (zIf (zTest (zOp (zI0 fun i j => .bl (decide (j ≤ i))) (zOp zIx (zVar 1) (zC (.int 0))) (zC (.int 0)))) (zProp 0 (W_Box_grow K C) (zVar 0)) (zProp 0 (W_Box_shrink K C) (zVar 0)))
def W_weight_at (K : PySem.W.Frag) (C : CI) : ZRC := fun ds Δ P => ds.length = 2 ∧ z_weight_at K C { nx := fun _ Δ' => P .non Δ', rt := P } (startZ ["box", "level"] ds) Δ
/-- scaled_size(box, level); slots 0:box 1:level 2:p 3:q 4:most -/
def z_scaled_size (K : PySem.W.Frag) (C : CI) : ZS := zSeq (zAsg (zVar 1) (zgTup 2 (zgCons (zgName 2) (zgCons (zgName 3) (zgNil)))))
    (zSeq (zAsg (zIf (zTest (zOp zIsN (zProp 0 (W_Box_most K C) (zVar 0)) (zC .non))) (zC .non) (zOp (zI MulOk fun i j => .int (i * j)) (zProp 0 (W_Box_most K C) (zVar 0)) (zVar 3))) (zgName 4))
    (zRet (zCall (W_limited K C) [] (zCons (zOp (zI0 fun i j => .int (i + j)) (zOp (zI MulOk fun i j => .int (i * j)) (zProp 0 (W_Box_wish K C) (zVar 0)) (zVar 3)) (zOp (zI MulOk fun i j => .int (i * j)) (zVar 2) (zCall (W_weight_at K C) [] (zCons (zVar 0) (zCons (zVar 1) (zNil)))))) (zCons (zOp (zI MulOk fun i j => .int (i * j)) (zProp 0 (W_Box_least K C) (zVar 0)) (zVar 3)) (zCons (zVar 4) (zNil)))))))
def W_scaled_size (K : PySem.W.Frag) (C : CI) : ZRC := fun ds Δ P => ds.length = 2 ∧ z_scaled_size K C { nx := fun _ Δ' => P .non Δ', rt := P } (startZ ["box", "level", "p", "q", "most"] ds) Δ
/-- size_at(box, level); slots 0:box 1:level -/
def z_size_at (K : PySem.W.Frag) (C : CI) : ZS := zRet (zCall (W_lowest K C) [] (zCons (zCall (W_scaled_size K C) [] (zCons (zVar 0) (zCons (zVar 1) (zNil)))) (zCons (zOp zIx (zVar 1) (zC (.int 1))) (zNil))))
def W_size_at (K : PySem.W.Frag) (C : CI) : ZRC := fun ds Δ P => ds.length = 2 ∧ z_size_at K C { nx := fun _ Δ' => P .non Δ', rt := P } (startZ ["box", "level"] ds) Δ
/-- as_fraction(value); slots 0:value -/
def z_as_fraction (K : PySem.W.Frag) (C : CI) : ZS := zRet (zIf (zTest (zCB (zIsi K C) (zCons (zVar 0) (zCons (zC (.ty "tuple")) (zNil))))) (zVar 0) (zTup (zCons (zVar 0) (zCons (zC (.int 1)) (zNil)))))
def W_as_fraction (K : PySem.W.Frag) (C : CI) : ZRC := fun ds Δ P => ds.length = 1 ∧ z_as_fraction K C { nx := fun _ Δ' => P .non Δ', rt := P } (startZ ["value"] ds) Δ
/-- Box.__call__(self, level); slots 0:self 1:level -/
def z_Box_d_call_d (K : PySem.W.Frag) (C : CI) : ZS := zSeq (zIfS (zNot (zTest (zCall (W_is_rational K C) [] (zCons (zVar 1) (zNil))))) (zNever) (zNext))
    (zRet (zCall (W_size_at K C) [] (zCons (zVar 0) (zCons (zCall (W_as_fraction K C) [] (zCons (zVar 1) (zNil))) (zNil)))))
def W_Box_d_call_d (K : PySem.W.Frag) (C : CI) : ZRC := fun ds Δ P => ds.length = 2 ∧ z_Box_d_call_d K C { nx := fun _ Δ' => P .non Δ', rt := P } (startZ ["self", "level"] ds) Δ
/-- _law_size(row, level); slots 0:row 1:level 2:weight -/
def z__law_size (K : PySem.W.Frag) (C : CI) : ZS := zSeq (zAsg (zIf (zTest (zOp (zI0 fun i j => .bl (decide (j ≤ i))) (zOp zIx (zVar 1) (zC (.int 0))) (zC (.int 0)))) (zOp zIx (zVar 0) (zC (.int 3))) (zOp zIx (zVar 0) (zC (.int 4)))) (zgName 2))
    (zRet (zCall (W__law_limited K C) [] (zCons (zCall (W__law_ratio K C) [] (zCons (zOp (zI0 fun i j => .int (i + j)) (zOp (zI MulOk fun i j => .int (i * j)) (zOp zIx (zVar 0) (zC (.int 0))) (zOp zIx (zVar 1) (zC (.int 1)))) (zOp (zI MulOk fun i j => .int (i * j)) (zOp zIx (zVar 1) (zC (.int 0))) (zVar 2))) (zCons (zOp zIx (zVar 1) (zC (.int 1))) (zNil)))) (zCons (zVar 0) (zNil)))))
def W__law_size (K : PySem.W.Frag) (C : CI) : ZRC := fun ds Δ P => ds.length = 2 ∧ z__law_size K C { nx := fun _ Δ' => P .non Δ', rt := P } (startZ ["row", "level", "weight"] ds) Δ
/-- Box.__eq__(self, other); slots 0:self 1:other -/
def z_Box_d_eq_d (K : PySem.W.Frag) (C : CI) : ZS := zRet (zAndV (zCB (zIsi K C) (zCons (zVar 1) (zCons (zC (.cls 0)) (zNil)))) (zAndV (zOp zEq (zFld C 0 (Str.ofString "_wish") (zVar 0)) (zFld C 0 (Str.ofString "_wish") (zVar 1))) (zAndV (zOp zEq (zFld C 0 (Str.ofString "_least") (zVar 0)) (zFld C 0 (Str.ofString "_least") (zVar 1))) (zAndV (zOp zEq (zFld C 0 (Str.ofString "_most") (zVar 0)) (zFld C 0 (Str.ofString "_most") (zVar 1))) (zAndV (zOp zEq (zFld C 0 (Str.ofString "_grow") (zVar 0)) (zFld C 0 (Str.ofString "_grow") (zVar 1))) (zOp zEq (zFld C 0 (Str.ofString "_shrink") (zVar 0)) (zFld C 0 (Str.ofString "_shrink") (zVar 1))))))))
def W_Box_d_eq_d (K : PySem.W.Frag) (C : CI) : ZRC := fun ds Δ P => ds.length = 2 ∧ z_Box_d_eq_d K C { nx := fun _ Δ' => P .non Δ', rt := P } (startZ ["self", "other"] ds) Δ
/-- _law_box_right(bag, row); slots 0:bag 1:row 2:told 3:again 4:found 5:level 6:named 7:mixed 8:k 9:part 10:other 11:odd -/
def z__law_box_right (K : PySem.W.Frag) (C : CI) : ZS := zSeq (zAsg (zMakeF C 0 (W_Box_d_init_d K C) [] (zCons (zOp zIx (zVar 1) (zC (.int 0))) (zCons (zOp zIx (zVar 1) (zC (.int 1))) (zCons (zOp zIx (zVar 1) (zC (.int 2))) (zCons (zOp zIx (zVar 1) (zC (.int 3))) (zCons (zOp zIx (zVar 1) (zC (.int 4))) (zNil))))))) (zgName 2))
    (zSeq (zFor (ziR1 (zCons (zC (.int 2)) (zNil))) (zgName 3) (zSeq (zAsg (zLst (zCons (zProp 0 (W_Box_wish K C) (zVar 2)) (zCons (zProp 0 (W_Box_least K C) (zVar 2)) (zCons (zProp 0 (W_Box_most K C) (zVar 2)) (zCons (zProp 0 (W_Box_grow K C) (zVar 2)) (zCons (zProp 0 (W_Box_shrink K C) (zVar 2)) (zCons (zProp 0 (W_Box_own K C) (zVar 2)) (zNil)))))))) (zgName 4))
    (zSeq (zIfS (zTest (zOp zNe (zCB zRepr (zCons (zVar 4) (zNil))) (zCB zRepr (zCons (zOp zCat (zCB zList (zCons (zVar 1) (zNil))) (zLst (zCons (zCall (W__law_own K C) [] (zCons (zVar 1) (zNil))) (zNil)))) (zNil))))) (zRet (zC (.bl false))) (zNext))
    (zFor (ziList (zCall (frzM (W__law_level_list K C)) [] (zCons (zVar 0) (zCons (zVar 1) (zNil))))) (zgName 5) (zSeq (zIfS (zTest (zOp zNe (zCB zRepr (zCons (zCallO 0 (W_Box_d_call_d K C) (zVar 2) (zCons (zVar 5) (zNil))) (zNil))) (zCB zRepr (zCons (zCall (W__law_size K C) [] (zCons (zVar 1) (zCons (zVar 5) (zNil)))) (zNil))))) (zRet (zC (.bl false))) (zNext))
    (zIfS (zAnd (zTest (zOp (zEqA C 0 (W_Box_d_eq_d K C)) (zOp zIx (zVar 5) (zC (.int 1))) (zC (.int 1)))) (zTest (zOp zNe (zCB zRepr (zCons (zCallO 0 (W_Box_d_call_d K C) (zVar 2) (zCons (zOp zIx (zVar 5) (zC (.int 0))) (zNil))) (zNil))) (zCB zRepr (zCons (zCall (W__law_size K C) [] (zCons (zVar 1) (zCons (zVar 5) (zNil)))) (zNil)))))) (zRet (zC (.bl false))) (zNext)))))))
    (zSeq (zAsg (zMakeK C 0 0 5 (W_Box_d_init_d K C) [.int 0, .non, .int 0, .int 0] [.k 4, .k 3, .k 2, .k 1, .k 0] (zNil) (zCons (zOp zIx (zVar 1) (zC (.int 4))) (zCons (zOp zIx (zVar 1) (zC (.int 3))) (zCons (zOp zIx (zVar 1) (zC (.int 2))) (zCons (zOp zIx (zVar 1) (zC (.int 1))) (zCons (zOp zIx (zVar 1) (zC (.int 0))) (zNil))))))) (zgName 6))
    (zSeq (zAsg (zMakeK C 0 2 3 (W_Box_d_init_d K C) [.int 0, .non, .int 0, .int 0] [.k 0, .k 1, .k 2] (zCons (zOp zIx (zVar 1) (zC (.int 0))) (zCons (zOp zIx (zVar 1) (zC (.int 1))) (zNil))) (zCons (zOp zIx (zVar 1) (zC (.int 2))) (zCons (zOp zIx (zVar 1) (zC (.int 3))) (zCons (zOp zIx (zVar 1) (zC (.int 4))) (zNil))))) (zgName 7))
    (zSeq (zIfS (zOr (zNot (zTest (zOp (zEqA C 0 (W_Box_d_eq_d K C)) (zVar 2) (zVar 6)))) (zOr (zNot (zTest (zOp (zEqA C 0 (W_Box_d_eq_d K C)) (zVar 6) (zVar 2)))) (zNot (zTest (zOp (zEqA C 0 (W_Box_d_eq_d K C)) (zVar 7) (zVar 2)))))) (zRet (zC (.bl false))) (zNext))
    (zSeq (zIfS (zAnd (zTest (zOp (zEqA C 0 (W_Box_d_eq_d K C)) (zSlT (zVar 1) (zPart (zC (.int 1))) zNoPart) (zTup (zCons (zC (.int 0)) (zCons (zC .non) (zCons (zC (.int 0)) (zCons (zC (.int 0)) (zNil)))))))) (zNot (zTest (zOp (zEqA C 0 (W_Box_d_eq_d K C)) (zMakeF C 0 (W_Box_d_init_d K C) [.int 0, .non, .int 0, .int 0] (zCons (zOp zIx (zVar 1) (zC (.int 0))) (zNil))) (zVar 2))))) (zRet (zC (.bl false))) (zNext))
    (zSeq (zFor (ziR1 (zCons (zC (.int 5)) (zNil))) (zgName 8) (zSeq (zAsg (zCB zListC (zCons (zVar 1) (zNil))) (zgName 9))
    (zSeq (zAsg (zIf (zOr (zTest (zOp zIsN (zOp zIx (zVar 1) (zVar 8)) (zC .non))) (zTest (zOp (zI0 fun i j => .bl (decide (i < j))) (zOp zIx (zVar 1) (zVar 8)) (zOp (zI CPow fun i j => .int (i ^ j.toNat)) (zC (.int 10)) (zC (.int 6)))))) (zOp zIx (zLst (zCons (zC (.int 1)) (zCons (zC (.int 0)) (zNil)))) (zCB zInt (zCons (zOp (zEqA C 0 (W_Box_d_eq_d K C)) (zOp zIx (zVar 1) (zVar 8)) (zC (.int 1))) (zNil)))) (zOp (zI0 fun i j => .int (i - j)) (zOp zIx (zVar 1) (zVar 8)) (zC (.int 1)))) (zgSub (zVar 9) (zVar 8)))
    (zIfS (zOr (zTest (zOp zIsN (zOp zIx (zVar 9) (zC (.int 2))) (zC .non))) (zTest (zOp (zI0 fun i j => .bl (decide (i ≤ j))) (zOp zIx (zVar 9) (zC (.int 1))) (zOp zIx (zVar 9) (zC (.int 2)))))) (zSeq (zAsg (zMakeF C 0 (W_Box_d_init_d K C) [] (zCons (zOp zIx (zVar 9) (zC (.int 0))) (zCons (zOp zIx (zVar 9) (zC (.int 1))) (zCons (zOp zIx (zVar 9) (zC (.int 2))) (zCons (zOp zIx (zVar 9) (zC (.int 3))) (zCons (zOp zIx (zVar 9) (zC (.int 4))) (zNil))))))) (zgName 10))
    (zIfS (zOr (zTest (zOp (zEqA C 0 (W_Box_d_eq_d K C)) (zVar 10) (zVar 2))) (zTest (zOp (zEqA C 0 (W_Box_d_eq_d K C)) (zVar 2) (zVar 10)))) (zRet (zC (.bl false))) (zNext))) (zNext)))))
    (zRet (zOp (zEqA C 0 (W_Box_d_eq_d K C)) (zLc (ziList (zLst (zCons (zC .non) (zCons (zVar 1) (zCons (zCB zList (zCons (zVar 1) (zNil))) (zCons (zC (.int 0)) (zCons (zC (.str (Str.ofString "x"))) (zCons (zLst (zCons (zVar 2) (zNil))) (zNil))))))))) (zgName 11) (zTest (zOp (zEqA C 0 (W_Box_d_eq_d K C)) (zVar 2) (zVar 11))) (zVar 11) [11]) (zLst (zNil))))))))))
def W__law_box_right (K : PySem.W.Frag) (C : CI) : ZRC := fun ds Δ P => ds.length = 2 ∧ z__law_box_right K C { nx := fun _ Δ' => P .non Δ', rt := P } (startZ ["bag", "row", "told", "again", "found", "level", "named", "mixed", "k", "part", "other", "odd"] ds) Δ
/-- law(script); slots 0:script 1:cell 2:bag 3:row 4:great -/
def z_law (K : PySem.W.Frag) (C : CI) : ZS := zSeq (zFor (ziList (zOp zCat (zSl (zVar 0) zNoPart (zPart (zC (.int 14)))) (zLst (zCons (zC (.int 0)) (zNil))))) (zgName 1) (zSeq (zAsg (zCall (W__law_bag K C) [] (zCons (zVar 1) (zNil))) (zgName 2))
    (zFor (ziList (zCall (W__law_rows K C) [] (zCons (zVar 2) (zCons (zC (.int 8)) (zNil))))) (zgName 3) (zIfS (zNot (zTest (zCall (W__law_box_right K C) [] (zCons (zVar 2) (zCons (zVar 3) (zNil)))))) (zRet (zC (.bl false))) (zNext)))))
    (zSeq (zAsg (zMakeF C 0 (W_Box_d_init_d K C) [] (zCons (zOp (zI CPow fun i j => .int (i ^ j.toNat)) (zC (.int 10)) (zC (.int 30))) (zCons (zOp (zI CPow fun i j => .int (i ^ j.toNat)) (zC (.int 10)) (zC (.int 30))) (zCons (zOp (zI CPow fun i j => .int (i ^ j.toNat)) (zC (.int 10)) (zC (.int 30))) (zCons (zOp (zI CPow fun i j => .int (i ^ j.toNat)) (zC (.int 10)) (zC (.int 6))) (zCons (zOp (zI CPow fun i j => .int (i ^ j.toNat)) (zC (.int 10)) (zC (.int 6))) (zNil))))))) (zgName 4))
    (zRet (zAndV (zOp zIsN (zProp 0 (W_Box_most K C) (zMakeF C 0 (W_Box_d_init_d K C) [.int 0, .non, .int 0, .int 0] (zCons (zC (.int 3)) (zNil)))) (zC .non)) (zOp zEq (zCallO 0 (W_Box_d_call_d K C) (zVar 4) (zCons (zTup (zCons (zOp (zI CPow fun i j => .int (i ^ j.toNat)) (zC (.int 10)) (zC (.int 40))) (zCons (zC (.int 7)) (zNil)))) (zNil))) (zTup (zCons (zOp (zI CPow fun i j => .int (i ^ j.toNat)) (zC (.int 10)) (zC (.int 30))) (zCons (zC (.int 1)) (zNil))))))))
def W_law (K : PySem.W.Frag) (C : CI) : ZRC := fun ds Δ P => ds.length = 1 ∧ z_law K C { nx := fun _ Δ' => P .non Δ', rt := P } (startZ ["script", "cell", "bag", "row", "great"] ds) Δ
end
end Bx

namespace Bx
open PySem PySem.Spec PyProof.Rows L2 Z
local macro_rules | `(tactic| walk_at "zz") => `(tactic| simp only [zSeq, zAsg, zRet, zRetN, zIfS, zNext, zDrop, zPar, zVar, zC, zOp, zUn, zNeg, zI0, zI, zTest, zAnd, zOr, zNot, zAndV, zOrV, zNotV, zIf, zNil, zCons, zTup, zLst, zLstC, zgName, zgTup, zgCons, zgNil, zgSub, startZ, zCall, zCB, zChain, zIsN, zNotN, zNever,
  zAddA, zMulA, zRepeat, zCat, zIx, seqD, lstD, zMax2, zMin2, zAbs, zLen, zSum, zGcd, zInt, zYes, zBreak, zCont, zLc, ziR1, ziR2, ziList, ziTup, ziZip, ziEnum, wipeZ, zFor,
  at0, at1, at2, at3, at4, ix2_3, ix0_3, isNon_int, isNon_non, Bool.not_true, Bool.not_false,
  List.map_cons, List.map_nil, List.length_cons, List.length_nil, List.replicate_succ, List.replicate_zero, List.append_nil, List.nil_append, List.cons_append, List.getElem?_cons_zero, List.getElem?_cons_succ, List.set_cons_zero, List.set_cons_succ,
  Option.some.injEq, D.int.injEq, D.bl.injEq, D.tup.injEq, D.lst.injEq, D.str.injEq, D.cell.injEq, O.lst.injEq, reduceCtorEq, exists_eq_left', exists_eq_left, false_and, and_false, true_and, and_true, exists_false, or_false, false_or, exists_and_left, exists_eq', exists_and_right, List.cons.injEq, and_assoc, dec_not, dec_yes, t_t, t_f, f_t, f_f, true_implies, false_implies, implies_true, and_self, Nat.reduceAdd, Nat.reduceLeDiff, Nat.reduceSub, Nat.reduceLT])
local macro_rules | `(tactic| walk_at "zy") => `(tactic| try simp only [Option.some.injEq, D.int.injEq, D.bl.injEq, D.tup.injEq, D.lst.injEq, D.str.injEq, D.cell.injEq, O.lst.injEq, reduceCtorEq, exists_eq_left', exists_eq_left, false_and, and_false, true_and, and_true, exists_false, or_false, false_or, exists_and_left, exists_eq', exists_and_right, List.cons.injEq, and_assoc, dec_not, dec_yes, t_t, t_f, f_t, f_f, true_implies, false_implies, implies_true, and_self])
/-! ### the bag: three ints in a cell, the first one not negative -/
def BagAt (Δ : Store) (n : Nat) : Prop := ∃ x y z : Int, Δ[n]? = some (.lst [.int x, .int y, .int z]) ∧ 0 ≤ x
structure Off (n : Nat) (Δ Δ' : Store) : Prop where
  len : Δ'.length = Δ.length
  at_ : ∀ m, m ≠ n → Δ'[m]? = Δ[m]?
theorem Off.refl (n : Nat) (Δ : Store) : Off n Δ Δ := ⟨rfl, fun _ _ => rfl⟩
theorem Off.trans {n : Nat} {Δ Δ1 Δ2 : Store} (a : Off n Δ Δ1) (b : Off n Δ1 Δ2) : Off n Δ Δ2 := ⟨b.len.trans a.len, fun m h => (b.at_ m h).trans (a.at_ m h)⟩
theorem Off.set (n : Nat) (Δ : Store) (o : O) : Off n Δ (Δ.set n o) := ⟨by rw [List.length_set], fun m h => by rw [List.getElem?_set_ne (Ne.symm h)]⟩
theorem set_get {Δ : Store} {n : Nat} {o : O} (h : Δ[n]? = some o) (o' : O) : (Δ.set n o')[n]? = some o' := List.getElem?_set_self (List.getElem?_eq_some_iff.mp h).1
theorem bag_ok {K : PySem.W.Frag} {C : CI} {c : Int} {Δ : Store} {P : D → Store → Prop} (h : ∀ Δ', Δ' = Δ ++ [.lst [.int (if c - 10 ^ 18 > 0 then c - 10 ^ 18 else 0), .int c, .int 0]] → BagAt Δ' Δ.length → P (.cell Δ.length) Δ') : W__law_bag K C [.int c] Δ P := by
  unfold W__law_bag z__law_bag
  walk_at "zz"
  refine ⟨⟨by decide, by decide, by decide⟩, h _ ?_ ⟨if c - 10 ^ 18 > 0 then c - 10 ^ 18 else 0, c, 0, ?_, ?_⟩⟩
  · congr
  · rw [List.getElem?_append_right (Nat.le_refl _), Nat.sub_self]
    rfl
  · split <;> omega
theorem pick_ok {K : PySem.W.Frag} {C : CI} {n : Nat} {many : Int} {Δ : Store} {P : D → Store → Prop} (hb : BagAt Δ n) (h1 : 1 ≤ many) (h2 : many.natAbs < 2 ^ 8000)
    (h : ∀ k Δ', 0 ≤ k → k < many → BagAt Δ' n → Off n Δ Δ' → P (.int k) Δ') : W__law_pick K C [.cell n, .int many] Δ P := by
  obtain ⟨x, y, z, e, hx⟩ := hb
  have es := set_get e
  have es2 : ∀ o o', ((Δ.set n o).set n o')[n]? = some o' := fun o o' => set_get (es o) o'
  have dv : CDivW x many := wide_div (b := 8000) (by omega) h2 (by decide) (by decide)
  unfold W__law_pick z__law_pick
  walk_at "zz"
  simp only [e, es, List.length_cons, List.length_nil, Nat.reduceAdd, ix2_3, ix0_3, at0, at1, at2, Option.some.injEq, exists_eq_left', List.set_cons_zero, List.set_cons_succ, O.lst.injEq, exists_eq_left, D.int.injEq, D.cell.injEq]
  refine ⟨fun hpos => ⟨by omega, dv, ?_⟩, fun hpos => ?_⟩
  · refine h _ _ (Int.emod_nonneg _ (by omega)) (Int.emod_lt_of_pos _ (by omega)) ⟨x / many, y, z + 1, ?_, Int.ediv_nonneg hx (by omega)⟩ ?_
    · rw [es2]
    · exact (Off.set _ _ _).trans (Off.set _ _ _)
  · have p1 : (0 : Int) < 2147483629 := by decide
    have p2 : (0 : Int) < 2147483647 := by decide
    have p3 : (0 : Int) < 2147483587 := by decide
    generalize hf : (y % 2147483629 * 48271 + (z + 1) * 69621 + 12345) % 2147483647 = f
    have f0 : 0 ≤ f := by rw [← hf]; exact Int.emod_nonneg _ (by decide)
    have f1 : f < 2147483647 := by rw [← hf]; exact Int.emod_lt_of_pos _ (by decide)
    refine ⟨by decide, .r (by decide) (by decide), .r (by decide) (by decide), by decide, .l (by omega) (by omega), .r (by decide) (by decide), by decide, .r (by decide) (by decide), wide_div (b := 8) (by decide) (by decide) (by decide) (by decide), by omega, ?_⟩
    exact h _ _ (Int.emod_nonneg _ (by omega)) (Int.emod_lt_of_pos _ (by omega)) ⟨x, y, z + 1, by rw [es], hx⟩ (Off.set _ _ _)
/-! ### rows: the numbers of a box -/
structure Row where
  w : Int
  l : Int
  m : Option Int
  g : Int
  s : Int
def optD : Option Int → D
  | none => .non
  | some i => .int i
def rowL (r : Row) : List D := [.int r.w, .int r.l, optD r.m, .int r.g, .int r.s]
def rowD (r : Row) : D := .tup [.int r.w, .int r.l, optD r.m, .int r.g, .int r.s]
def boxD (r : Row) : D := .ins 0 [.int r.w, .int r.l, optD r.m, .int r.g, .int r.s]
structure Row.Ok (r : Row) : Prop where
  w0 : 0 ≤ r.w
  w1 : r.w ≤ 10 ^ 30
  l0 : 0 ≤ r.l
  l1 : r.l ≤ 10 ^ 30
  m0 : ∀ i, r.m = some i → r.l ≤ i ∧ i ≤ 10 ^ 30
  g0 : 0 ≤ r.g
  g1 : r.g ≤ 10 ^ 6
  s0 : 0 ≤ r.s
  s1 : r.s ≤ 10 ^ 6
theorem atM {l : List D} {i : Int} (h0 : 0 ≤ i) (h1 : i < l.length) : ∃ d, d ∈ l ∧ atI l i = some d := by
  obtain ⟨d, h, e⟩ := atN h0 h1
  exact ⟨d, List.mem_of_getElem? h, e⟩
theorem natAbs_lt {i : Int} {n : Nat} (h0 : 0 ≤ i) (h : i < (2 : Int) ^ n) : i.natAbs < 2 ^ n := by
  have : ((2 ^ n : Nat) : Int) = (2 : Int) ^ n := by simp
  omega
theorem sm {i : Int} (h0 : 0 ≤ i) (h : i ≤ 10 ^ 31) : i.natAbs < 2 ^ 8000 := Nat.lt_of_lt_of_le (natAbs_lt (n := 110) h0 (Int.lt_of_le_of_lt h (by decide))) (Nat.pow_le_pow_right (by decide) (by decide))
theorem numbers_ok {K : PySem.W.Frag} {C : CI} {n : Nat} {wide heavy : Int} {Δ : Store} {P : D → Store → Prop} (hb : BagAt Δ n) (h1 : 1 ≤ wide) (h2 : wide ≤ 10 ^ 30) (h3 : 1 ≤ heavy) (h4 : heavy ≤ 10 ^ 6)
    (h : ∀ r Δ', Row.Ok r → BagAt Δ' n → Off n Δ Δ' → P (rowD r) Δ') : W__law_numbers K C [.cell n, .int wide, .int heavy] Δ P := by
  unfold W__law_numbers z__law_numbers
  walk_at "zz"
  refine pick_ok hb h1 (sm (by omega) (by omega)) fun a1 Δ1 a10 a11 b1 o1 => ?_
  refine pick_ok b1 h1 (sm (by omega) (by omega)) fun a2 Δ2 a20 a21 b2 o2 => ?_
  refine pick_ok b2 (by decide) (sm (by decide) (by decide)) fun a3 Δ3 a30 a31 b3 o3 => ?_
  obtain ⟨d, hd, e⟩ := atM (l := [D.int 0, D.int a1, D.int a2]) a30 a31
  obtain ⟨few, rfl, f0, f1⟩ : ∃ few : Int, d = .int few ∧ 0 ≤ few ∧ few < wide := by
    simp only [List.mem_cons, List.not_mem_nil, or_false] at hd
    rcases hd with rfl | rfl | rfl
    · exact ⟨0, rfl, by omega, by omega⟩
    · exact ⟨a1, rfl, a10, a11⟩
    · exact ⟨a2, rfl, a20, a21⟩
  walk_at "zy"
  simp only [e]
  walk_at "zy"
  refine pick_ok b3 h1 (sm (by omega) (by omega)) fun a4 Δ4 a40 a41 b4 o4 => ?_
  walk_at "zy"
  refine pick_ok b4 (by decide) (sm (by decide) (by decide)) fun a5 Δ5 a50 a51 b5 o5 => ?_
  walk_at "zy"
  refine pick_ok b5 (by decide) (sm (by decide) (by decide)) fun a6 Δ6 a60 a61 b6 o6 => ?_
  obtain ⟨d2, hd2, e2⟩ := atM (l := [D.non, D.int few, D.int (few + a4), D.int (few + a5), D.non]) a60 a61
  obtain ⟨many, rfl, hm⟩ : ∃ many : Option Int, d2 = optD many ∧ ∀ i, many = some i → few ≤ i := by
    simp only [List.mem_cons, List.not_mem_nil, or_false] at hd2
    rcases hd2 with rfl | rfl | rfl | rfl | rfl
    · exact ⟨none, rfl, fun i q => nomatch q⟩
    · exact ⟨some few, rfl, fun i q => by cases q; omega⟩
    · exact ⟨some (few + a4), rfl, fun i q => by cases q; omega⟩
    · exact ⟨some (few + a5), rfl, fun i q => by cases q; omega⟩
    · exact ⟨none, rfl, fun i q => nomatch q⟩
  walk_at "zy"
  simp only [e2]
  walk_at "zy"
  refine pick_ok b6 h1 (sm (by omega) (by omega)) fun a7 Δ7 a70 a71 b7 o7 => ?_
  refine pick_ok b7 h1 (sm (by omega) (by omega)) fun a8 Δ8 a80 a81 b8 o8 => ?_
  walk_at "zy"
  refine ⟨.l (by decide) (by decide), ?_⟩
  refine pick_ok b8 (by omega) (sm (by omega) (by omega)) fun a9 Δ9 a90 a91 b9 o9 => ?_
  refine pick_ok b9 (by decide) (sm (by decide) (by decide)) fun c1 Δ10 c10 c11 b10 o10 => ?_
  obtain ⟨d3, hd3, e3⟩ := atM (l := [D.int a7, D.int 0, D.int few, D.int (few + a8), D.int a9]) c10 c11
  obtain ⟨want, rfl, w0⟩ : ∃ want : Int, d3 = .int want ∧ 0 ≤ want := by
    simp only [List.mem_cons, List.not_mem_nil, or_false] at hd3
    rcases hd3 with rfl | rfl | rfl | rfl | rfl
    · exact ⟨_, rfl, by omega⟩
    · exact ⟨_, rfl, by omega⟩
    · exact ⟨_, rfl, by omega⟩
    · exact ⟨_, rfl, by omega⟩
    · exact ⟨_, rfl, by omega⟩
  walk_at "zy"
  simp only [e3]
  walk_at "zy"
  refine pick_ok b10 (by decide) (sm (by decide) (by decide)) fun c2 Δ11 c20 c21 b11 o11 => ?_
  refine pick_ok b11 (by omega) (sm (by omega) (by omega)) fun c3 Δ12 c30 c31 b12 o12 => ?_
  have wt : ∀ i : Int, 0 ≤ i → i < 5 → ∃ g : Int, atI [D.int 0, D.int 1, D.int c2, D.int c3, D.int heavy] i = some (.int g) ∧ 0 ≤ g ∧ g ≤ 10 ^ 6 := fun i i0 i1 => by
    obtain ⟨d4, hd4, e4⟩ := atM (l := [D.int 0, D.int 1, D.int c2, D.int c3, D.int heavy]) i0 i1
    simp only [List.mem_cons, List.not_mem_nil, or_false] at hd4
    rcases hd4 with rfl | rfl | rfl | rfl | rfl
    · exact ⟨_, e4, by omega, by omega⟩
    · exact ⟨_, e4, by omega, by omega⟩
    · exact ⟨_, e4, by omega, by omega⟩
    · exact ⟨_, e4, by omega, by omega⟩
    · exact ⟨_, e4, by omega, by omega⟩
  refine pick_ok b12 (by decide) (sm (by decide) (by decide)) fun c4 Δ13 c40 c41 b13 o13 => ?_
  obtain ⟨up, e5, up0, up1⟩ := wt c4 c40 c41
  walk_at "zy"
  simp only [e5]
  walk_at "zy"
  refine pick_ok b13 (by decide) (sm (by decide) (by decide)) fun c5 Δ14 c50 c51 b14 o14 => ?_
  obtain ⟨down, e6, down0, down1⟩ := wt c5 c50 c51
  walk_at "zy"
  simp only [e6]
  walk_at "zy"
  have fin : ∀ i : Int, (if (10 : Int) ^ Int.toNat 30 < i then (10 : Int) ^ Int.toNat 30 else i) ≤ 10 ^ 30 ∧ (0 ≤ i → 0 ≤ (if (10 : Int) ^ Int.toNat 30 < i then (10 : Int) ^ Int.toNat 30 else i)) := fun i => by
    show (if (10 : Int) ^ 30 < i then (10 : Int) ^ 30 else i) ≤ 10 ^ 30 ∧ (0 ≤ i → 0 ≤ (if (10 : Int) ^ 30 < i then (10 : Int) ^ 30 else i))
    split <;> omega
  have off := (((((((((((((o1.trans o2).trans o3).trans o4).trans o5).trans o6).trans o7).trans o8).trans o9).trans o10).trans o11).trans o12).trans o13).trans o14)
  refine ⟨⟨by decide, by decide, by decide⟩, fun hn => ?_, fun hn => ?_⟩
  · refine h ⟨_, _, none, _, _⟩ Δ14 ⟨(fin want).2 w0, (fin want).1, (fin few).2 f0, (fin few).1, (fun i q => nomatch q), up0, up1, down0, down1⟩ b14 off
  · cases many with
    | none => cases hn
    | some i =>
      refine ⟨i, rfl, h ⟨_, _, some _, _, _⟩ Δ14 ⟨(fin want).2 w0, (fin want).1, (fin few).2 f0, (fin few).1, fun j q => ?_, up0, up1, down0, down1⟩ b14 off⟩
      cases q
      have hi := hm i rfl
      refine ⟨?_, (fin i).1⟩
      show (if (10 : Int) ^ 30 < few then (10 : Int) ^ 30 else few) ≤ (if (10 : Int) ^ 30 < i then (10 : Int) ^ 30 else i)
      split <;> split <;> omega
theorem comp_each {zg : ZG} {ze : ZE} {Γ0 : Z.Env} {P : D → Store → Prop} (J : Store → Prop) (R : D → Prop) : ∀ (items acc : List D) (Δ : Store), J Δ → (∀ y ∈ acc, R y) → acc.length + items.length ≤ 100000 →
    (∀ x ∈ items, ∀ Δ (Q : D → Store → Prop), J Δ → (∀ y Δ', J Δ' → R y → Q y Δ') → zg x Γ0 Δ fun Γ2 Δ2 => ze Γ2 Δ2 Q) →
    (∀ ys Δ', J Δ' → (∀ y ∈ ys, R y) → ys.length = acc.length + items.length → P (.lst ys) Δ') → compZ zg zYes ze Γ0 P items acc Δ
  | [], acc, Δ, hj, ha, _, _, h => h acc Δ hj ha rfl
  | x :: xs, acc, Δ, hj, ha, hl, hs, h => by
    have hl' : acc.length + (xs.length + 1) ≤ 100000 := by simpa using hl
    show zg x Γ0 Δ fun Γ2 Δ2 => (true = true → ze Γ2 Δ2 fun y Δ4 => acc.length < 100000 ∧ compZ zg zYes ze Γ0 P xs (acc ++ [y]) Δ4) ∧ (true = false → compZ zg zYes ze Γ0 P xs acc Δ2)
    simp only [true_implies, reduceCtorEq, false_implies, and_true]
    refine hs x List.mem_cons_self Δ _ hj fun y Δ' hj' hy => ⟨by omega, ?_⟩
    refine comp_each J R xs (acc ++ [y]) Δ' hj' (fun z hz => ?_) (by simp; omega) (fun z hz => hs z (List.mem_cons_of_mem _ hz)) fun ys Δ2 h1 h2 h3 => h ys Δ2 h1 h2 (by simp at h3 ⊢; omega)
    rcases List.mem_append.mp hz with hz | hz
    · exact ha z hz
    · rw [List.mem_singleton] at hz
      subst hz
      exact hy
theorem of_rows : ∀ {ys : List D}, (∀ y ∈ ys, ∃ r, Row.Ok r ∧ y = rowD r) → ∃ rows : List Row, ys = rows.map rowD ∧ ∀ r ∈ rows, Row.Ok r
  | [], _ => ⟨[], rfl, fun _ h => nomatch h⟩
  | y :: ys, h => by
    obtain ⟨r, h1, rfl⟩ := h y List.mem_cons_self
    obtain ⟨rows, rfl, h2⟩ := of_rows fun z hz => h z (List.mem_cons_of_mem _ hz)
    exact ⟨r :: rows, rfl, fun z hz => by rcases List.mem_cons.mp hz with rfl | hz; exact h1; exact h2 z hz⟩
theorem rows_ok {K : PySem.W.Frag} {C : CI} {n : Nat} {count : Int} {Δ : Store} {P : D → Store → Prop} (hb : BagAt Δ n) (h1 : 1 ≤ count) (h2 : count ≤ 1000)
    (h : ∀ rows Δ', rows ≠ [] → (rows.length : Int) ≤ count → (∀ r ∈ rows, Row.Ok r) → BagAt Δ' n → Off n Δ Δ' → P (.lst (rows.map rowD)) Δ') : W__law_rows K C [.cell n, .int count] Δ P := by
  unfold W__law_rows z__law_rows
  walk_at "zz"
  refine ⟨⟨by decide, by decide, by decide⟩, ?_⟩
  refine pick_ok hb (by decide) (sm (by decide) (by decide)) fun a1 Δ1 a10 a11 b1 o1 => ?_
  obtain ⟨d, hd, e⟩ := atM (l := [D.int 4, D.int 12, D.int 100, D.int (10 ^ Int.toNat 30)]) a10 a11
  obtain ⟨wide, rfl, w0, w1⟩ : ∃ wide : Int, d = .int wide ∧ 1 ≤ wide ∧ wide ≤ 10 ^ 30 := by
    simp only [List.mem_cons, List.not_mem_nil, or_false] at hd
    rcases hd with rfl | rfl | rfl | rfl
    · exact ⟨_, rfl, by decide, by decide⟩
    · exact ⟨_, rfl, by decide, by decide⟩
    · exact ⟨_, rfl, by decide, by decide⟩
    · exact ⟨_, rfl, by decide, by decide⟩
  walk_at "zy"
  simp only [e]
  walk_at "zy"
  refine ⟨⟨by decide, by decide, by decide⟩, ?_⟩
  refine pick_ok b1 (by decide) (sm (by decide) (by decide)) fun a2 Δ2 a20 a21 b2 o2 => ?_
  obtain ⟨d, hd, e⟩ := atM (l := [D.int 3, D.int 9, D.int (10 ^ Int.toNat 6)]) a20 a21
  obtain ⟨heavy, rfl, v0, v1⟩ : ∃ heavy : Int, d = .int heavy ∧ 1 ≤ heavy ∧ heavy ≤ 10 ^ 6 := by
    simp only [List.mem_cons, List.not_mem_nil, or_false] at hd
    rcases hd with rfl | rfl | rfl
    · exact ⟨_, rfl, by decide, by decide⟩
    · exact ⟨_, rfl, by decide, by decide⟩
    · exact ⟨_, rfl, by decide, by decide⟩
  walk_at "zy"
  simp only [e]
  walk_at "zy"
  refine pick_ok b2 h1 (sm (by omega) (by omega)) fun a3 Δ3 a30 a31 b3 o3 => ?_
  walk_at "zy"
  refine ⟨by omega, by omega, ?_⟩
  refine comp_each (fun Δ' => BagAt Δ' n ∧ Off n Δ3 Δ') (fun y => ∃ r, Row.Ok r ∧ y = rowD r) _ _ _ ⟨b3, Off.refl _ _⟩ (fun _ q => nomatch q) ?_ ?_ ?_
  · rw [rangeD_len]
    simp
    omega
  · intro x _ Δ4 Q hj hQ
    walk_at "zz"
    exact numbers_ok hj.1 w0 w1 v0 v1 fun r Δ' hr hb' ho => hQ _ _ ⟨hb', hj.2.trans ho⟩ ⟨r, hr, rfl⟩
  · intro ys Δ4 hj hy hlen
    obtain ⟨rows, rfl, hok⟩ := of_rows hy
    rw [rangeD_len] at hlen
    simp at hlen
    refine h rows Δ4 (fun q => ?_) (by omega) hok hj.1 (((o1.trans o2).trans o3).trans hj.2)
    subst q
    simp at hlen
    omega
end Bx

namespace Bx
open PySem PySem.Spec PyProof.Rows L2 Z
local macro_rules | `(tactic| walk_at "zz") => `(tactic| simp only [zSeq, zAsg, zRet, zRetN, zIfS, zNext, zDrop, zPar, zVar, zC, zOp, zUn, zNeg, zI0, zI, zTest, zAnd, zOr, zNot, zAndV, zOrV, zNotV, zIf, zNil, zCons, zTup, zLst, zLstC, zgName, zgTup, zgCons, zgNil, zgSub, startZ, zCall, zCB, zChain, zIsN, zNotN, zNever,
  zAddA, zMulA, zRepeat, zCat, zIx, seqD, lstD, zMax2, zMin2, zAbs, zLen, zSum, zGcd, zInt, zYes, zBreak, zCont, zLc, ziR1, ziR2, ziList, ziTup, ziZip, ziEnum, wipeZ, zFor,
  at0, at1, at2, at3, at4, ix2_3, ix0_3, isNon_int, isNon_non, Bool.not_true, Bool.not_false,
  List.map_cons, List.map_nil, List.length_cons, List.length_nil, List.replicate_succ, List.replicate_zero, List.append_nil, List.nil_append, List.cons_append, List.getElem?_cons_zero, List.getElem?_cons_succ, List.set_cons_zero, List.set_cons_succ,
  Option.some.injEq, D.int.injEq, D.bl.injEq, D.tup.injEq, D.lst.injEq, D.str.injEq, D.cell.injEq, O.lst.injEq, reduceCtorEq, exists_eq_left', exists_eq_left, false_and, and_false, true_and, and_true, exists_false, or_false, false_or, exists_and_left, exists_eq', exists_and_right, List.cons.injEq, and_assoc, dec_not, dec_yes, t_t, t_f, f_t, f_f, true_implies, false_implies, implies_true, and_self, Nat.reduceAdd, Nat.reduceLeDiff, Nat.reduceSub, Nat.reduceLT])
local macro_rules | `(tactic| walk_at "zy") => `(tactic| try simp only [Option.some.injEq, D.int.injEq, D.bl.injEq, D.tup.injEq, D.lst.injEq, D.str.injEq, D.cell.injEq, O.lst.injEq, reduceCtorEq, exists_eq_left', exists_eq_left, false_and, and_false, true_and, and_true, exists_false, or_false, false_or, exists_and_left, exists_eq', exists_and_right, List.cons.injEq, and_assoc, dec_not, dec_yes, t_t, t_f, f_t, f_f, true_implies, false_implies, implies_true, and_self])
/-! ### fractions -/
def frD (x : Rat) : D := .tup [.int x.num, .int (x.den : Int)]
theorem den_dvd (a b : Int) (hb : b ≠ 0) : (Rat.divInt a b).den = b.natAbs / b.gcd a := by rw [Rat.den_divInt, if_neg hb]
theorem num_le (a b : Int) : (Rat.divInt a b).num.natAbs ≤ a.natAbs := by
  rw [Rat.num_divInt]
  have h1 : (b.sign * a).natAbs ≤ a.natAbs := by
    rw [Int.natAbs_mul]
    have : b.sign.natAbs ≤ 1 := by
      rcases Int.lt_trichotomy b 0 with h | h | h
      · rw [Int.sign_eq_neg_one_of_neg h]; decide
      · rw [h]; decide
      · rw [Int.sign_eq_one_of_pos h]; decide
    calc b.sign.natAbs * a.natAbs ≤ 1 * a.natAbs := Nat.mul_le_mul_right _ this
      _ = a.natAbs := Nat.one_mul _
  refine Nat.le_trans ?_ h1
  exact Int.natAbs_ediv_le_natAbs _ _
theorem den_le (a b : Int) (hb : b ≠ 0) : (Rat.divInt a b).den ≤ b.natAbs := by
  rw [den_dvd a b hb]
  exact Nat.div_le_self _ _
theorem frD_inj {x y : Rat} (h : frD x = frD y) : x = y := by
  unfold frD at h
  injection h with h
  injection h with h1 h2
  injection h1 with h1
  injection h2 with h2 _
  injection h2 with h2
  exact Rat.ext h1 (by omega)
theorem gcd_step (a b : Nat) : Nat.gcd b (a % b) = Nat.gcd a b := by
  rw [Nat.gcd_comm b (a % b), ← Nat.gcd_rec, Nat.gcd_comm]
theorem ratio_ok {K : PySem.W.Frag} {C : CI} {a b : Int} {Δ : Store} {P : D → Store → Prop} (hb : b ≠ 0) (sb : b.natAbs < 2 ^ 8000) (h : P (frD (Rat.divInt a b)) Δ) : W__law_ratio K C [.int a, .int b] Δ P := by
  unfold W__law_ratio z__law_ratio
  walk_at "zz"
  simp only [zWhile]
  have absN : ∀ i : Int, (if i < 0 then -i else i) = (i.natAbs : Int) := fun i => by split <;> omega
  rw [absN, absN]
  refine ⟨fun m Γ Δ' => Δ' = Δ ∧ ∃ u v : Nat, Γ = [some (.int a), some (.int b), some (.int (u : Int)), some (.int (v : Int))] ∧ Nat.gcd u v = Nat.gcd a.natAbs b.natAbs ∧ m = v, ⟨_, rfl, _, _, rfl, rfl, rfl⟩, ?_⟩
  rintro m Γ Δ' ⟨rfl, u, v, rfl, hg, rfl⟩
  walk_at "zz"
  refine ⟨fun hv => ⟨hv, u % m, Nat.mod_lt _ (by omega), m, rfl, u % m, (Int.natCast_emod u m).symm, ?_, rfl⟩, fun hv => ?_⟩
  · rw [gcd_step]; exact hg
  · have hm : m = 0 := by omega
    subst hm
    rw [Nat.gcd_zero_right] at hg
    have ub : u ∣ b.natAbs := by rw [hg]; exact Nat.gcd_dvd_right _ _
    have ua : u ∣ a.natAbs := by rw [hg]; exact Nat.gcd_dvd_left _ _
    have bp : 0 < b.natAbs := by omega
    have ul : u ≤ b.natAbs := Nat.le_of_dvd bp ub
    have up : 0 < u := Nat.pos_of_dvd_of_pos ub bp
    have us : ((u : Int)).natAbs < 2 ^ 8000 := by
      have : ((u : Int)).natAbs = u := by omega
      rw [this]
      exact Nat.lt_of_le_of_lt ul sb
    have dv : ∀ i : Int, CDivW i u := fun i => wide_div (b := 8000) (by omega) us (by decide) (by decide)
    have eg : b.gcd a = u := by show Nat.gcd b.natAbs a.natAbs = u; rw [Nat.gcd_comm]; exact hg.symm
    have en := Rat.num_divInt a b
    have ed := den_dvd a b hb
    rw [eg] at en ed
    obtain ⟨k, hk⟩ := ub
    have ek : (Rat.divInt a b).den = k := by rw [ed, hk, Nat.mul_div_cancel_left _ up]
    refine ⟨fun hn => ⟨dv _, dv _, ?_⟩, fun hn => ⟨dv _, dv _, ?_⟩⟩
    · have e1 : (0 - a) / (u : Int) = (Rat.divInt a b).num := by
        rw [en, Int.sign_eq_neg_one_of_neg hn]
        congr 1
        omega
      have e2 : (0 - b) / (u : Int) = ((Rat.divInt a b).den : Int) := by
        have : 0 - b = (u : Int) * k := by rw [← Int.natCast_mul]; omega
        rw [ek, this, Int.mul_ediv_cancel_left _ (by omega)]
      rw [e1, e2]
      exact h
    · have e1 : a / (u : Int) = (Rat.divInt a b).num := by
        rw [en, Int.sign_eq_one_of_pos (by omega)]
        congr 1
        omega
      have e2 : b / (u : Int) = ((Rat.divInt a b).den : Int) := by
        have : b = (u : Int) * k := by rw [← Int.natCast_mul]; omega
        rw [ek, this, Int.mul_ediv_cancel_left _ (by omega)]
      rw [e1, e2]
      exact h

theorem frD_ty {K : PySem.W.Frag} {C : CI} {Δ : Store} {x : Rat} : tyD C Δ (frD x) = some (.type "tuple") := rfl
theorem frD_int (n : Int) : frD (n : Rat) = .tup [.int n, .int 1] := rfl
structure Sz (x : Rat) (N M : Nat) : Prop where
  n : x.num.natAbs < 2 ^ N
  d : x.den ≤ 2 ^ M
theorem den_abs (x : Rat) : ((x.den : Int)).natAbs = x.den := by omega
theorem pow_pos2 (n : Nat) : 0 < 2 ^ n := Nat.pow_pos (by decide)
theorem order_ok {K : PySem.W.Frag} {C : CI} {x y : Rat} {Δ : Store} {P : D → Store → Prop} {N M : Nat} (hx : Sz x N M) (hy : Sz y N M) (hN : N ≤ 9000) (hM : M ≤ 9000) (h : P (.int (x.num * y.den - y.num * x.den)) Δ) : W__law_order K C [frD x, frD y] Δ P := by
  have k1 : MulOk x.num y.den := .w (9001) (9001) (Nat.lt_of_lt_of_le hx.n (Nat.pow_le_pow_right (by decide) (by omega))) (by rw [den_abs]; exact Nat.lt_of_le_of_lt hy.d (Nat.pow_lt_pow_right (by decide) (by omega)))
  have k2 : MulOk y.num x.den := .w (9001) (9001) (Nat.lt_of_lt_of_le hy.n (Nat.pow_le_pow_right (by decide) (by omega))) (by rw [den_abs]; exact Nat.lt_of_le_of_lt hx.d (Nat.pow_lt_pow_right (by decide) (by omega)))
  unfold W__law_order z__law_order frD
  walk_at "zz"
  exact ⟨k1, k2, h⟩
theorem int_sz (n : Int) {N : Nat} (h : n.natAbs < 2 ^ N) : Sz (n : Rat) N 0 := ⟨h, Nat.le_refl _⟩
theorem Sz.mono {x : Rat} {N M N' M' : Nat} (h : Sz x N M) (h1 : N ≤ N') (h2 : M ≤ M') : Sz x N' M' := ⟨Nat.lt_of_lt_of_le h.n (Nat.pow_le_pow_right (by decide) h1), Nat.le_trans h.d (Nat.pow_le_pow_right (by decide) h2)⟩
end Bx

namespace Bx
open PySem PySem.Spec PyProof.Rows L2 Z
local macro_rules | `(tactic| walk_at "zz") => `(tactic| simp only [zSeq, zAsg, zRet, zRetN, zIfS, zNext, zDrop, zPar, zVar, zC, zOp, zUn, zNeg, zI0, zI, zTest, zAnd, zOr, zNot, zAndV, zOrV, zNotV, zIf, zNil, zCons, zTup, zLst, zLstC, zgName, zgTup, zgCons, zgNil, zgSub, startZ, zCall, zCB, zChain, zIsN, zNotN, zNever,
  zAddA, zMulA, zRepeat, zCat, zIx, seqD, lstD, zMax2, zMin2, zAbs, zLen, zSum, zGcd, zInt, zYes, zBreak, zCont, zLc, ziR1, ziR2, ziList, ziTup, ziZip, ziEnum, wipeZ, zFor,
  at0, at1, at2, at3, at4, ix2_3, ix0_3, isNon_int, isNon_non, Bool.not_true, Bool.not_false,
  List.map_cons, List.map_nil, List.length_cons, List.length_nil, List.replicate_succ, List.replicate_zero, List.append_nil, List.nil_append, List.cons_append, List.getElem?_cons_zero, List.getElem?_cons_succ, List.set_cons_zero, List.set_cons_succ,
  Option.some.injEq, D.int.injEq, D.bl.injEq, D.tup.injEq, D.lst.injEq, D.str.injEq, D.cell.injEq, O.lst.injEq, reduceCtorEq, exists_eq_left', exists_eq_left, false_and, and_false, true_and, and_true, exists_false, or_false, false_or, exists_and_left, exists_eq', exists_and_right, List.cons.injEq, and_assoc, dec_not, dec_yes, t_t, t_f, f_t, f_f, true_implies, false_implies, implies_true, and_self, Nat.reduceAdd, Nat.reduceLeDiff, Nat.reduceSub, Nat.reduceLT])
local macro_rules | `(tactic| walk_at "zy") => `(tactic| try simp only [Option.some.injEq, D.int.injEq, D.bl.injEq, D.tup.injEq, D.lst.injEq, D.str.injEq, D.cell.injEq, O.lst.injEq, reduceCtorEq, exists_eq_left', exists_eq_left, false_and, and_false, true_and, and_true, exists_false, or_false, false_or, exists_and_left, exists_eq', exists_and_right, List.cons.injEq, and_assoc, dec_not, dec_yes, t_t, t_f, f_t, f_f, true_implies, false_implies, implies_true, and_self])
/-! ### own functions over data -/
structure Kf (K : PySem.W.Frag) (C : CI) : Prop where
  isi : Isi K (C.adr 0)
  nms : C.nms 0 = nmsOf 0
section
variable {K : PySem.W.Frag} {C : CI} {Δ : Store} {P : D → Store → Prop}
theorem isi_ty {x : D} {a b : String} {r : Bool} (h1 : tyD C Δ x = some (.type a)) (h : kitB a b = some r) (p : P (.bl r) Δ) : zIsi K C [x, .ty b] Δ P :=
  ⟨x, _, _, _, r, rfl, h1, rfl, (fun _ q => nomatch q), kit_ty h, p⟩
theorem isi_own {x : D} {c : Nat} (hi : Isi K (C.adr c)) (h1 : tyD C Δ x = some (.ref (C.adr c))) (p : P (.bl true) Δ) : zIsi K C [x, .cls c] Δ P :=
  ⟨x, _, _, _, true, rfl, h1, rfl, (fun _ q => by cases q; exact hi), if_pos (beq_self_eq_true _), p⟩
theorem all_ok {l : List D} {bs : List Bool} (h : l = bs.map D.bl) (p : P (.bl (bs.all id)) Δ) : zAll [.lst l] Δ P := ⟨_, bs, rfl, by rw [h]; rfl, p⟩
theorem any_ok {l : List D} {bs : List Bool} (h : l = bs.map D.bl) (p : P (.bl (bs.any id)) Δ) : zAny [.lst l] Δ P := ⟨_, bs, rfl, by rw [h]; rfl, p⟩
theorem sumI_ok {l : List D} {ns : List Int} (h : l = ns.map D.int) (p : P (.int ns.sum) Δ) : zSum [.lst l] Δ P := ⟨_, ns, rfl, by rw [h]; rfl, p⟩
theorem isint_i {i : Int} (p : P (.bl true) Δ) : W_is_int K C [.int i] Δ P := by
  unfold W_is_int z_is_int
  walk_at "zz"
  refine isi_ty (r := true) rfl (by decide +kernel) ?_
  walk_at "zz"
  refine isi_ty (r := false) rfl (by decide +kernel) ?_
  walk_at "zz"
  exact p
theorem isint_t {ds : List D} (p : P (.bl false) Δ) : W_is_int K C [.tup ds] Δ P := by
  unfold W_is_int z_is_int
  walk_at "zz"
  refine isi_ty (r := false) rfl (by decide +kernel) ?_
  walk_at "zz"
  exact p
theorem inb_ok {i t : Int} (h0 : 0 ≤ i) (h1 : i ≤ t) (p : P (.bl true) Δ) : W_in_bounds K C [.int i, .int t] Δ P := by
  unfold W_in_bounds z_in_bounds
  walk_at "zz"
  refine isint_i ?_
  walk_at "zz"
  rw [decide_eq_true h1]
  exact ⟨fun _ => p, fun h => absurd h0 h⟩
theorem nums_ok {r : Row} (h : r.Ok) (p : P (.bl true) Δ) : W_are_box_numbers K C (rowL r) Δ P := by
  have e30 : (1000000000000000000000000000000 : Int) = 10 ^ 30 := by decide
  have e6 : (1000000 : Int) = 10 ^ 6 := by decide
  unfold W_are_box_numbers z_are_box_numbers rowL
  obtain ⟨w, l, m, g, s⟩ := r
  have hw := h.w1
  have hl := h.l1
  cases m with
  | none =>
    simp only [optD]
    walk_at "zz"
    simp only [compZ]
    walk_at "zz"
    refine inb_ok h.w0 (by rw [e30]; exact h.w1) ?_
    refine inb_ok h.l0 (by rw [e30]; exact h.l1) ?_
    refine all_ok (bs := [true, true]) rfl ⟨true, rfl, fun _ => ?_, fun q => nomatch q⟩
    refine inb_ok h.g0 (by rw [e6]; exact h.g1) (inb_ok h.s0 (by rw [e6]; exact h.s1) ?_)
    exact all_ok (bs := [true, true]) rfl ⟨true, rfl, fun _ => p, fun q => nomatch q⟩
  | some m =>
    have hm := h.m0 m rfl
    simp only [optD]
    walk_at "zz"
    simp only [compZ]
    walk_at "zz"
    refine inb_ok h.w0 (by rw [e30]; exact h.w1) ?_
    refine inb_ok h.l0 (by rw [e30]; exact h.l1) ?_
    refine inb_ok (Int.le_trans h.l0 hm.1) (by rw [e30]; exact hm.2) ?_
    refine all_ok (bs := [true, true, true]) rfl ?_
    refine ⟨true, rfl, fun _ => ?_, fun q => nomatch q⟩
    refine inb_ok h.g0 (by rw [e6]; exact h.g1) (inb_ok h.s0 (by rw [e6]; exact h.s1) ?_)
    refine all_ok (bs := [true, true]) rfl ⟨true, rfl, fun _ => ?_, fun q => nomatch q⟩
    rw [decide_eq_true hm.1]
    exact p
theorem get_end {o : O} : (Δ ++ [o])[Δ.length]? = some o := by rw [List.getElem?_append_right (Nat.le_refl _), Nat.sub_self]; rfl
theorem set_end {o o' : O} : (Δ ++ [o]).set Δ.length o' = Δ ++ [o'] := by rw [List.set_append_right _ _ (Nat.le_refl _), Nat.sub_self]; rfl
theorem setF_ok {Ze : ZEnds} {Γ : Z.Env} {f : Str} {c i : Nat} {y : D} {fs : List (Str × D)} (h0 : Γ[0]? = some (some (.cell Δ.length))) (h1 : Γ[i]? = some (some y)) (hl : fs.length < 1000) (h : Ze.nx Γ (Δ ++ [.ins c (putFd f y fs)])) : zSetF c f (zVar 0) (zVar i) Ze Γ (Δ ++ [.ins c fs]) :=
  ⟨y, h1, _, h0, _, fs, rfl, get_end, hl, by rw [set_end]; exact h⟩
theorem putFd_len {f : Str} {v : D} {n : Nat} : ∀ {l : List (Str × D)}, l.length ≤ n → (putFd f v l).length ≤ n + 1
  | [], _ => by show 1 ≤ n + 1; omega
  | (g, x) :: r, h => by
    have h' : r.length + 1 ≤ n := h
    unfold putFd
    split
    · show r.length + 1 ≤ n + 1; omega
    · have := putFd_len (f := f) (v := v) (n := n - 1) (l := r) (by omega)
      show (putFd f v r).length + 1 ≤ n + 1
      omega
theorem lt1000 {a n : Nat} (h : a ≤ n) (hn : n < 1000) : a < 1000 := Nat.lt_of_le_of_lt h hn
theorem init_ok {r : Row} (h : r.Ok) (p : P .non (Δ ++ [.ins 0 ((nmsOf 0).zip (rowL r))])) : W_Box_d_init_d K C (.cell Δ.length :: rowL r) (Δ ++ [.ins 0 []]) P := by
  unfold W_Box_d_init_d z_Box_d_init_d rowL
  walk_at "zz"
  refine nums_ok h ?_
  walk_at "zz"
  refine setF_ok rfl rfl (by decide) (setF_ok rfl rfl (lt1000 (n := 1) ?_ (by decide)) (setF_ok rfl rfl (lt1000 (n := 2) ?_ (by decide)) (setF_ok rfl rfl (lt1000 (n := 3) ?_ (by decide)) (setF_ok rfl rfl (lt1000 (n := 4) ?_ (by decide)) p))))
  all_goals exact putFd_len (by first | exact Nat.le_refl _ | exact putFd_len (by first | exact Nat.le_refl _ | exact putFd_len (by first | exact Nat.le_refl _ | exact putFd_len (Nat.le_refl _))))
/-! the numbers of a box -/
def lim (v l : Int) (m : Option Int) : Int := if v < l then l else match m with
  | none => v
  | some m => if m < v then m else v
def ownI (r : Row) : Int := lim r.w r.l r.m
theorem fld (F : Kf K C) {r : Row} {f : Str} {d : D} (h : ((nmsOf 0).zip (rowL r)).lookup f = some d) : fldD C Δ 0 f (boxD r) = some d := by
  unfold fldD boxD
  rw [F.nms]
  exact h
theorem lim_ok {v l : Int} {m : Option Int} (p : P (.int (lim v l m)) Δ) : W_limited K C [.int v, .int l, optD m] Δ P := by
  unfold W_limited z_limited
  unfold lim at p
  cases m with
  | none =>
    simp only [optD]
    walk_at "zz"
    refine ⟨fun h => ?_, fun h => ?_⟩
    · rw [if_pos h] at p; exact p
    · rw [if_neg h] at p; exact p
  | some m =>
    simp only [optD]
    walk_at "zz"
    refine ⟨fun h => ?_, fun h => ⟨fun h2 => ?_, fun h2 => ?_⟩⟩
    · rw [if_pos h] at p; exact p
    · rw [if_neg h] at p; simp only [if_pos h2] at p; exact p
    · rw [if_neg h] at p; simp only [if_neg h2] at p; exact p
theorem wish_ok (F : Kf K C) {r : Row} (p : P (.int r.w) Δ) : W_Box_wish K C [boxD r] Δ P := by
  unfold W_Box_wish z_Box_wish zFld
  walk_at "zz"
  exact ⟨_, fld F rfl, p⟩
theorem least_ok (F : Kf K C) {r : Row} (p : P (.int r.l) Δ) : W_Box_least K C [boxD r] Δ P := by
  unfold W_Box_least z_Box_least zFld
  walk_at "zz"
  exact ⟨_, fld F rfl, p⟩
theorem most_ok (F : Kf K C) {r : Row} (p : P (optD r.m) Δ) : W_Box_most K C [boxD r] Δ P := by
  unfold W_Box_most z_Box_most zFld
  walk_at "zz"
  exact ⟨_, fld F rfl, p⟩
theorem grow_ok (F : Kf K C) {r : Row} (p : P (.int r.g) Δ) : W_Box_grow K C [boxD r] Δ P := by
  unfold W_Box_grow z_Box_grow zFld
  walk_at "zz"
  exact ⟨_, fld F rfl, p⟩
theorem shrink_ok (F : Kf K C) {r : Row} (p : P (.int r.s) Δ) : W_Box_shrink K C [boxD r] Δ P := by
  unfold W_Box_shrink z_Box_shrink zFld
  walk_at "zz"
  exact ⟨_, fld F rfl, p⟩
theorem ownB_ok (F : Kf K C) {r : Row} (p : P (.int (ownI r)) Δ) : W_Box_own K C [boxD r] Δ P := by
  unfold W_Box_own z_Box_own zFld
  walk_at "zz"
  exact ⟨_, fld F rfl, _, fld F rfl, _, fld F rfl, lim_ok p⟩
theorem ins_box {r : Row} : insD Δ 0 (boxD r) := .inl ⟨_, rfl⟩
end
end Bx

namespace Bx
open PySem PySem.Spec PyProof.Rows L2 Z
local macro_rules | `(tactic| walk_at "zz") => `(tactic| simp only [zSeq, zAsg, zRet, zRetN, zIfS, zNext, zDrop, zPar, zVar, zC, zOp, zUn, zNeg, zI0, zI, zTest, zAnd, zOr, zNot, zAndV, zOrV, zNotV, zIf, zNil, zCons, zTup, zLst, zLstC, zgName, zgTup, zgCons, zgNil, zgSub, startZ, zCall, zCB, zChain, zIsN, zNotN, zNever,
  zAddA, zMulA, zRepeat, zCat, zIx, seqD, lstD, zMax2, zMin2, zAbs, zLen, zSum, zGcd, zInt, zYes, zBreak, zCont, zLc, ziR1, ziR2, ziList, ziTup, ziZip, ziEnum, wipeZ, zFor,
  at0, at1, at2, at3, at4, ix2_3, ix0_3, isNon_int, isNon_non, Bool.not_true, Bool.not_false,
  List.map_cons, List.map_nil, List.length_cons, List.length_nil, List.replicate_succ, List.replicate_zero, List.append_nil, List.nil_append, List.cons_append, List.getElem?_cons_zero, List.getElem?_cons_succ, List.set_cons_zero, List.set_cons_succ,
  Option.some.injEq, D.int.injEq, D.bl.injEq, D.tup.injEq, D.lst.injEq, D.str.injEq, D.cell.injEq, O.lst.injEq, reduceCtorEq, exists_eq_left', exists_eq_left, false_and, and_false, true_and, and_true, exists_false, or_false, false_or, exists_and_left, exists_eq', exists_and_right, List.cons.injEq, and_assoc, dec_not, dec_yes, t_t, t_f, f_t, f_f, true_implies, false_implies, implies_true, and_self, Nat.reduceAdd, Nat.reduceLeDiff, Nat.reduceSub, Nat.reduceLT])
local macro_rules | `(tactic| walk_at "zy") => `(tactic| try simp only [Option.some.injEq, D.int.injEq, D.bl.injEq, D.tup.injEq, D.lst.injEq, D.str.injEq, D.cell.injEq, O.lst.injEq, reduceCtorEq, exists_eq_left', exists_eq_left, false_and, and_false, true_and, and_true, exists_false, or_false, false_or, exists_and_left, exists_eq', exists_and_right, List.cons.injEq, and_assoc, dec_not, dec_yes, t_t, t_f, f_t, f_f, true_implies, false_implies, implies_true, and_self])
/-! ### sizes at a level -/
/-- the size at p/q, times q -/
def scI (r : Row) (p : Int) (q : Int) : Int := lim (r.w * q + p * (if 0 ≤ p then r.g else r.s)) (r.l * q) (r.m.map (· * q))
def siz (r : Row) (p : Int) (q : Int) : Rat := Rat.divInt (scI r p q) q
section
variable {K : PySem.W.Frag} {C : CI} {Δ : Store} {P : D → Store → Prop}
theorem weight_ok (F : Kf K C) {r : Row} {p q : Int} (h : P (.int (if 0 ≤ p then r.g else r.s)) Δ) : W_weight_at K C [boxD r, .tup [.int p, .int q]] Δ P := by
  unfold W_weight_at z_weight_at zProp
  walk_at "zz"
  refine ⟨fun hp => ⟨ins_box, grow_ok F ?_⟩, fun hp => ⟨ins_box, shrink_ok F ?_⟩⟩
  · rw [if_pos hp] at h; exact h
  · rw [if_neg hp] at h; exact h
theorem limM {v l q : Int} {m : Option Int} (h : P (.int (lim v l (m.map (· * q)))) Δ) : W_limited K C [.int v, .int l, (optD (m.map (· * q)))] Δ P := lim_ok h
theorem scaled_ok (F : Kf K C) {r : Row} {p q : Int} (hr : r.Ok) (q0 : 0 < q) (q1 : q ≤ 10 ^ 18) (h : P (.int (scI r p q)) Δ) : W_scaled_size K C [boxD r, .tup [.int p, .int q]] Δ P := by
  have mq : ∀ i : Int, MulOk i q := fun i => .r (by omega) (by omega)
  have mw : MulOk p (if 0 ≤ p then r.g else r.s) := by
    have := hr.g0; have := hr.g1; have := hr.s0; have := hr.s1
    exact .r (by split <;> omega) (by split <;> omega)
  unfold W_scaled_size z_scaled_size zProp
  walk_at "zz"
  refine ⟨ins_box, most_ok F ⟨fun hn => ?_, fun hn => ?_⟩⟩
  · refine ⟨ins_box, wish_ok F ⟨_, rfl, mq _, weight_ok F ⟨_, rfl, mw, ins_box, least_ok F ⟨_, rfl, mq _, ?_⟩⟩⟩⟩
    cases e : r.m with
    | none =>
      unfold scI at h
      rw [e] at h
      exact lim_ok (m := none) h
    | some m => rw [e] at hn; cases hn
  · cases e : r.m with
    | none => rw [e] at hn; cases hn
    | some m =>
      refine ⟨ins_box, most_ok F ?_⟩
      rw [e]
      refine ⟨m, rfl, mq _, ?_⟩
      refine ⟨ins_box, wish_ok F ⟨_, rfl, mq _, weight_ok F ⟨_, rfl, mw, ins_box, least_ok F ⟨_, rfl, mq _, ?_⟩⟩⟩⟩
      unfold scI at h
      rw [e] at h
      exact lim_ok (m := some (m * q)) h
theorem divInt_parts {a b : Int} (hb : 0 < b) : a / (Int.gcd a b : Int) = (Rat.divInt a b).num ∧ b / (Int.gcd a b : Int) = ((Rat.divInt a b).den : Int) := by
  have e : b.gcd a = Int.gcd a b := Int.gcd_comm _ _
  have gd : Int.gcd a b ∣ b.natAbs := Nat.gcd_dvd_right _ _
  have gp : 0 < Int.gcd a b := Nat.pos_of_dvd_of_pos gd (by omega)
  refine ⟨?_, ?_⟩
  · rw [Rat.num_divInt, e, Int.sign_eq_one_of_pos hb, Int.one_mul]
  · rw [den_dvd a b (by omega), e]
    obtain ⟨k, hk⟩ := gd
    rw [hk, Nat.mul_div_cancel_left _ gp]
    have : b = (Int.gcd a b : Int) * k := by rw [← Int.natCast_mul, ← hk]; omega
    rw [show b / (Int.gcd a b : Int) = ((Int.gcd a b : Int) * k) / (Int.gcd a b : Int) from by rw [← this]]
    exact Int.mul_ediv_cancel_left _ (by omega)
theorem lowest_ok {a b : Int} (hb : 0 < b) (sb : b.natAbs < 2 ^ 8000) (p : P (frD (Rat.divInt a b)) Δ) : W_lowest K C [.int a, .int b] Δ P := by
  have gd : Int.gcd a b ∣ b.natAbs := Nat.gcd_dvd_right _ _
  have gl : Int.gcd a b ≤ b.natAbs := Nat.le_of_dvd (by omega) gd
  have gp : 0 < Int.gcd a b := Nat.pos_of_dvd_of_pos gd (by omega)
  have dv : ∀ i : Int, CDivW i (Int.gcd a b : Int) := fun i => wide_div (b := 8000) (by omega) (by
    have : ((Int.gcd a b : Int)).natAbs = Int.gcd a b := by omega
    rw [this]
    exact Nat.lt_of_le_of_lt gl sb) (by decide) (by decide)
  unfold W_lowest z_lowest
  walk_at "zz"
  refine ⟨dv _, dv _, ?_⟩
  rw [(divInt_parts hb).1, (divInt_parts hb).2]
  exact p
theorem sizeat_ok (F : Kf K C) {r : Row} {p q : Int} (hr : r.Ok) (q0 : 0 < q) (q1 : q ≤ 10 ^ 18) (h : P (frD (siz r p q)) Δ) : W_size_at K C [boxD r, .tup [.int p, .int q]] Δ P := by
  unfold W_size_at z_size_at
  walk_at "zz"
  exact scaled_ok F hr q0 q1 (lowest_ok q0 (sm (by omega) (by omega)) h)
theorem callI_ok (F : Kf K C) {r : Row} {p : Int} (hr : r.Ok) (h : P (frD (siz r p 1)) Δ) : W_Box_d_call_d K C [boxD r, .int p] Δ P := by
  unfold W_Box_d_call_d z_Box_d_call_d W_is_rational z_is_rational W_as_fraction z_as_fraction
  walk_at "zz"
  refine isint_i ?_
  walk_at "zz"
  refine isi_ty (r := false) rfl (by decide +kernel) ?_
  walk_at "zz"
  exact sizeat_ok F hr (by decide) (by decide) h
theorem isfrac_ok {x : Rat} (h : P (.bl true) Δ) : W_is_fraction K C [frD x] Δ P := by
  have hd := x.den_pos
  unfold W_is_fraction z_is_fraction frD
  walk_at "zz"
  refine isi_ty (r := true) rfl (by decide +kernel) ?_
  walk_at "zz"
  refine ⟨rfl, rfl, ?_⟩
  have g1 : Int.gcd x.num (x.den : Int) = 1 := by
    show Nat.gcd x.num.natAbs ((x.den : Int)).natAbs = 1
    rw [den_abs]
    exact x.reduced
  refine ⟨false, rfl, (fun q => nomatch q), fun _ => isint_i ⟨true, rfl, fun _ => isint_i ⟨true, rfl, fun _ => ⟨fun _ => ⟨rfl, rfl, ?_⟩, fun h => by omega⟩, fun q => nomatch q⟩, fun q => nomatch q⟩⟩
  rw [g1]
  exact h
theorem callQ_ok (F : Kf K C) {r : Row} {x : Rat} (hr : r.Ok) (q1 : x.den ≤ 10 ^ 18) (h : P (frD (siz r x.num x.den)) Δ) : W_Box_d_call_d K C [boxD r, frD x] Δ P := by
  have hd := x.den_pos
  unfold W_Box_d_call_d z_Box_d_call_d W_is_rational z_is_rational W_as_fraction z_as_fraction
  walk_at "zz"
  refine isint_t ?_
  walk_at "zz"
  refine isfrac_ok ?_
  walk_at "zz"
  refine isi_ty (r := true) rfl (by decide +kernel) ?_
  walk_at "zz"
  exact sizeat_ok F hr (by omega) (by omega) h
theorem llim_ok {r : Row} {w : Int} (hr : r.Ok) (hw : w.natAbs < 2 ^ 110) (h : P (.tup [.int (lim w r.l r.m), .int 1]) Δ) : W__law_limited K C [.tup [.int w, .int 1], rowD r] Δ P := by
  have sw : Sz (w : Rat) 110 0 := int_sz w hw
  have sl : Sz (r.l : Rat) 110 0 := int_sz _ (natAbs_lt hr.l0 (Int.lt_of_le_of_lt hr.l1 (by decide)))
  unfold W__law_limited z__law_limited rowD
  unfold lim at h
  walk_at "zz"
  refine order_ok (x := (w : Rat)) (y := (r.l : Rat)) sw sl (by decide) (by decide) ?_
  rw [Rat.num_intCast, Rat.num_intCast, Rat.den_intCast, Rat.den_intCast]
  walk_at "zz"
  refine ⟨fun q => ?_, fun q => ⟨fun hn => ?_, fun hn => ?_⟩⟩
  · rw [if_pos (by omega)] at h; exact h
  · cases e : r.m with
    | none => rw [e] at hn; cases hn
    | some m =>
      have hm := hr.m0 m e
      have l0 := hr.l0
      have sm' : Sz (m : Rat) 110 0 := int_sz _ (natAbs_lt (by omega) (Int.lt_of_le_of_lt hm.2 (by decide)))
      refine order_ok (x := (w : Rat)) (y := (m : Rat)) sw sm' (by decide) (by decide) ?_
      rw [Rat.num_intCast, Rat.num_intCast, Rat.den_intCast, Rat.den_intCast]
      rw [if_neg (by omega), e] at h
      refine ⟨_, rfl, fun q2 => ?_, fun q2 => ?_⟩
      · simp only [if_pos (show m < w by omega)] at h; exact h
      · simp only [if_neg (show ¬ m < w by omega)] at h; exact h
  · cases e : r.m with
    | none => rw [if_neg (by omega), e] at h; exact h
    | some m => rw [e] at hn; cases hn
theorem lown_ok {r : Row} (hr : r.Ok) (h : P (.int (ownI r)) Δ) : W__law_own K C [rowD r] Δ P := by
  unfold W__law_own z__law_own
  walk_at "zz"
  unfold rowD
  walk_at "zz"
  refine llim_ok hr (natAbs_lt hr.w0 (Int.lt_of_le_of_lt hr.w1 (by decide))) ?_
  walk_at "zz"
  exact h
end
end Bx

namespace Bx
open PySem PySem.Spec PyProof.Rows L2 Z
local macro_rules | `(tactic| walk_at "zz") => `(tactic| simp only [zSeq, zAsg, zRet, zRetN, zIfS, zNext, zDrop, zPar, zVar, zC, zOp, zUn, zNeg, zI0, zI, zTest, zAnd, zOr, zNot, zAndV, zOrV, zNotV, zIf, zNil, zCons, zTup, zLst, zLstC, zgName, zgTup, zgCons, zgNil, zgSub, startZ, zCall, zCB, zChain, zIsN, zNotN, zNever,
  zAddA, zMulA, zRepeat, zCat, zIx, seqD, lstD, zMax2, zMin2, zAbs, zLen, zSum, zGcd, zInt, zYes, zBreak, zCont, zLc, ziR1, ziR2, ziList, ziTup, ziZip, ziEnum, wipeZ, zFor,
  at0, at1, at2, at3, at4, ix2_3, ix0_3, isNon_int, isNon_non, Bool.not_true, Bool.not_false,
  List.map_cons, List.map_nil, List.length_cons, List.length_nil, List.replicate_succ, List.replicate_zero, List.append_nil, List.nil_append, List.cons_append, List.getElem?_cons_zero, List.getElem?_cons_succ, List.set_cons_zero, List.set_cons_succ,
  Option.some.injEq, D.int.injEq, D.bl.injEq, D.tup.injEq, D.lst.injEq, D.str.injEq, D.cell.injEq, O.lst.injEq, reduceCtorEq, exists_eq_left', exists_eq_left, false_and, and_false, true_and, and_true, exists_false, or_false, false_or, exists_and_left, exists_eq', exists_and_right, List.cons.injEq, and_assoc, dec_not, dec_yes, t_t, t_f, f_t, f_f, true_implies, false_implies, implies_true, and_self, Nat.reduceAdd, Nat.reduceLeDiff, Nat.reduceSub, Nat.reduceLT])
local macro_rules | `(tactic| walk_at "zy") => `(tactic| try simp only [Option.some.injEq, D.int.injEq, D.bl.injEq, D.tup.injEq, D.lst.injEq, D.str.injEq, D.cell.injEq, O.lst.injEq, reduceCtorEq, exists_eq_left', exists_eq_left, false_and, and_false, true_and, and_true, exists_false, or_false, false_or, exists_and_left, exists_eq', exists_and_right, List.cons.injEq, and_assoc, dec_not, dec_yes, t_t, t_f, f_t, f_f, true_implies, false_implies, implies_true, and_self])
/-! ### limits of fractions -/
theorem divInt_one (a : Int) : Rat.divInt a 1 = (a : Rat) := by
  have h : (1 : Int) ≠ 0 := by decide
  refine Rat.ext ?_ ?_
  · rw [Rat.num_divInt, Rat.num_intCast]
    simp
  · rw [Rat.den_divInt, Rat.den_intCast, if_neg h]
    simp
theorem divInt_int {a q : Int} (hq : 0 < q) : Rat.divInt (a * q) q = (a : Rat) := by
  have h := Rat.divInt_mul_right (n := a) (d := 1) (a := q) (by omega)
  rw [Int.one_mul] at h
  rw [h, divInt_one]
theorem le_divInt {a b q : Int} (hq : 0 < q) (h : a * q ≤ b) : (a : Rat) ≤ Rat.divInt b q := by
  rw [← divInt_int (a := a) hq, Rat.le_iff_sub_nonneg, Rat.divInt_sub_divInt _ _ (by omega) (by omega)]
  refine Rat.divInt_nonneg ?_ (Int.mul_nonneg (by omega) (by omega))
  rw [← Int.sub_mul]
  exact Int.mul_nonneg (by omega) (by omega)
theorem divInt_le {a b q : Int} (hq : 0 < q) (h : b ≤ a * q) : Rat.divInt b q ≤ (a : Rat) := by
  rw [← divInt_int (a := a) hq, Rat.le_iff_sub_nonneg, Rat.divInt_sub_divInt _ _ (by omega) (by omega)]
  refine Rat.divInt_nonneg ?_ (Int.mul_nonneg (by omega) (by omega))
  rw [← Int.sub_mul]
  exact Int.mul_nonneg (by omega) (by omega)
theorem divInt_ne {a b q : Int} (hq : 0 < q) (h : b ≠ a * q) : Rat.divInt b q ≠ (a : Rat) := fun e => by
  rw [← divInt_int (a := a) hq, Rat.divInt_eq_divInt_iff (by omega) (by omega)] at e
  exact h (Int.eq_of_mul_eq_mul_right (by omega) e)
theorem divInt_lt_iff {v l q : Int} (hq : 0 < q) : Rat.divInt v q < (l : Rat) ↔ v < l * q := by
  refine ⟨fun h => ?_, fun h => ?_⟩
  · rcases Int.lt_or_le v (l * q) with h2 | h2
    · exact h2
    · exact absurd (le_divInt hq h2) (Rat.not_le.mpr h)
  · exact Rat.lt_of_le_of_ne (divInt_le hq (by omega)) (divInt_ne hq (by omega))
theorem lt_divInt_iff {v m q : Int} (hq : 0 < q) : (m : Rat) < Rat.divInt v q ↔ m * q < v := by
  refine ⟨fun h => ?_, fun h => ?_⟩
  · rcases Int.lt_or_le (m * q) v with h2 | h2
    · exact h2
    · exact absurd (divInt_le hq h2) (Rat.not_le.mpr h)
  · exact Rat.lt_of_le_of_ne (le_divInt hq (by omega)) fun e => divInt_ne hq (by omega : v ≠ m * q) e.symm
def limQ (x : Rat) (l : Int) (m : Option Int) : Rat := if x < (l : Rat) then (l : Rat) else match m with
  | none => x
  | some m => if (m : Rat) < x then (m : Rat) else x
theorem siz_limQ {r : Row} {p q : Int} (hq : 0 < q) : siz r p q = limQ (Rat.divInt (r.w * q + p * (if 0 ≤ p then r.g else r.s)) q) r.l r.m := by
  unfold siz scI
  generalize r.w * q + p * (if 0 ≤ p then r.g else r.s) = v
  unfold lim limQ
  by_cases h : v < r.l * q
  · rw [if_pos h, if_pos ((divInt_lt_iff hq).mpr h), divInt_int hq]
  · rw [if_neg h, if_neg (fun q' => h ((divInt_lt_iff hq).mp q'))]
    cases e : r.m with
    | none => rfl
    | some m =>
      show Rat.divInt (if m * q < v then m * q else v) q = (if (m : Rat) < Rat.divInt v q then (m : Rat) else Rat.divInt v q)
      by_cases h2 : m * q < v
      · rw [if_pos h2, if_pos ((lt_divInt_iff hq).mpr h2), divInt_int hq]
      · rw [if_neg h2, if_neg (fun q' => h2 ((lt_divInt_iff hq).mp q'))]
section
variable {K : PySem.W.Frag} {C : CI} {Δ : Store} {P : D → Store → Prop}
theorem order_lt {x : Rat} {l : Int} : (x.num * ((l : Rat).den : Int) - (l : Rat).num * (x.den : Int) < 0) ↔ x < (l : Rat) := by
  rw [Rat.lt_iff]
  omega
theorem order_gt {x : Rat} {l : Int} : (0 < x.num * ((l : Rat).den : Int) - (l : Rat).num * (x.den : Int)) ↔ (l : Rat) < x := by
  rw [Rat.lt_iff]
  omega
theorem llimQ_ok {r : Row} {x : Rat} (hr : r.Ok) (sx : Sz x 400 200) (h : P (frD (limQ x r.l r.m)) Δ) : W__law_limited K C [frD x, rowD r] Δ P := by
  have szI : ∀ {i : Int}, 0 ≤ i → i ≤ 10 ^ 30 → Sz (i : Rat) 400 200 := fun {i} h0 h1 => (int_sz (N := 110) i (natAbs_lt h0 (Int.lt_of_le_of_lt h1 (by decide)))).mono (by decide) (by decide)
  unfold W__law_limited z__law_limited rowD
  unfold limQ at h
  walk_at "zz"
  refine order_ok (x := x) (y := (r.l : Rat)) sx (szI hr.l0 hr.l1) (by decide) (by decide) ?_
  refine ⟨_, rfl, fun q => ?_, fun q => ⟨fun hn => ?_, fun hn => ?_⟩⟩
  · rw [if_pos (order_lt.mp q)] at h; exact h
  · rw [if_neg (fun q' => q (order_lt.mpr q'))] at h
    cases e : r.m with
    | none => rw [e] at hn; cases hn
    | some m =>
      have hm := hr.m0 m e
      have l0 := hr.l0
      rw [e] at h
      refine order_ok (x := x) (y := (m : Rat)) sx (szI (by omega) hm.2) (by decide) (by decide) ?_
      refine ⟨_, rfl, fun q2 => ?_, fun q2 => ?_⟩
      · simp only [if_pos (order_gt.mp q2)] at h; exact h
      · simp only [if_neg (fun q' => q2 (order_gt.mpr q'))] at h; exact h
  · rw [if_neg (fun q' => q (order_lt.mpr q'))] at h
    cases e : r.m with
    | none => rw [e] at h; exact h
    | some m => rw [e] at hn; cases hn
theorem lsize_ok {r : Row} {p q : Int} (hr : r.Ok) (q0 : 0 < q) (q1 : q ≤ 10 ^ 18) (p1 : p.natAbs ≤ 10 ^ 100) (h : P (frD (siz r p q)) Δ) : W__law_size K C [rowD r, .tup [.int p, .int q]] Δ P := by
  have w0 := hr.w0
  have w1 := hr.w1
  have g0 := hr.g0
  have g1 := hr.g1
  have s0 := hr.s0
  have s1 := hr.s1
  have wt : ∀ wt : Int, 0 ≤ wt → wt ≤ 10 ^ 6 → (r.w * q + p * wt).natAbs < 2 ^ 400 := fun wt h0 h1 => by
    have b1 : (r.w * q).natAbs ≤ 10 ^ 30 * 10 ^ 18 := by rw [Int.natAbs_mul]; exact Nat.mul_le_mul (by omega) (by omega)
    have b2 : (p * wt).natAbs ≤ 10 ^ 100 * 10 ^ 6 := by rw [Int.natAbs_mul]; exact Nat.mul_le_mul p1 (by omega)
    have b3 : (10 : Nat) ^ 30 * 10 ^ 18 + 10 ^ 100 * 10 ^ 6 < 2 ^ 400 := by decide +kernel
    omega
  have body : ∀ wt : Int, 0 ≤ wt → wt ≤ 10 ^ 6 → wt = (if 0 ≤ p then r.g else r.s) → W__law_ratio K C [.int (r.w * q + p * wt), .int q] Δ fun d Δ1 => W__law_limited K C [d, rowD r] Δ1 P := fun wt' h0 h1 e => by
    refine ratio_ok (by omega) (sm (by omega) (by omega)) ?_
    refine llimQ_ok hr ⟨Nat.lt_of_le_of_lt (num_le _ _) (wt wt' h0 h1), ?_⟩ ?_
    · refine Nat.le_trans (den_le _ _ (by omega)) (Nat.le_trans (show q.natAbs ≤ 10 ^ 18 by omega) (by decide +kernel))
    · rw [e, ← siz_limQ q0]
      exact h
  unfold W__law_size z__law_size
  walk_at "zz"
  unfold rowD
  walk_at "zz"
  refine ⟨fun hp => ⟨.r (by omega) (by omega), .r (by omega) (by omega), ?_⟩, fun hp => ⟨.r (by omega) (by omega), .r (by omega) (by omega), ?_⟩⟩
  · exact body r.g g0 g1 (by rw [if_pos hp])
  · exact body r.s s0 s1 (by rw [if_neg hp])
end
/-! ### texts -/
theorem ok_app {x y : Str} (hx : PyData.strOk x = true) (hy : PyData.strOk y = true) : PyData.strOk (x ++ y) = true := by
  show (x.cps ++ y.cps).all _ = true
  rw [Array.all_append]
  exact Bool.and_eq_true_iff.mpr ⟨hx, hy⟩
theorem ok_of (s : String) : PyData.strOk (Str.ofString s) = true := by
  rw [Str.ofString_eq_toList]
  unfold PyData.strOk
  simp only [List.all_toArray, List.all_map, List.all_eq_true, Function.comp, decide_eq_true_eq]
  intro c _
  have := c.valid
  unfold UInt32.isValidChar Nat.isValidChar at this
  show c.val.toNat < 0x110000
  omega
theorem ok_text : ∀ (ts : List Str) (k : Nat) (acc : Str), PyData.strOk acc = true → (∀ t ∈ ts, PyData.strOk t = true) → PyData.strOk (textFrom k acc ts) = true
  | [], _, _, h, _ => h
  | t :: ts, k, acc, h, ht => by
    show PyData.strOk (textFrom (k + 1) (acc ++ (if k > 0 then ", " else "" : String) ++ t) ts) = true
    exact ok_text ts _ _ (ok_app (ok_app h (ok_of _)) (ht t List.mem_cons_self)) fun u hu => ht u (List.mem_cons_of_mem _ hu)
theorem ok_int (i : Int) : PyData.strOk (PyData.shown (.int i)) = true := ok_of _
theorem ok_opt (i : Option Int) : PyData.strOk (PyData.shown (pd (optD i))) = true := by cases i <;> exact ok_of _
theorem ok_six (r : Row) (o : Int) : PyData.strOk (PyData.shown (pd (.lst (rowL r ++ [.int o])))) = true := by
  show PyData.strOk (textFrom 0 "[" [PyData.shown (.int r.w), PyData.shown (.int r.l), PyData.shown (pd (optD r.m)), PyData.shown (.int r.g), PyData.shown (.int r.s), PyData.shown (.int o)] ++ Str.ofString "]") = true
  refine ok_app (ok_text _ _ _ (ok_of _) fun t ht => ?_) (ok_of _)
  simp only [List.mem_cons, List.not_mem_nil, or_false] at ht
  rcases ht with rfl | rfl | rfl | rfl | rfl | rfl
  · exact ok_int _
  · exact ok_int _
  · exact ok_opt _
  · exact ok_int _
  · exact ok_int _
  · exact ok_int _
theorem ok_two (a b : Int) : PyData.strOk (PyData.shown (pd (.tup [.int a, .int b]))) = true := by
  show PyData.strOk (Str.ofString "(" ++ (PyData.shown (.int a) ++ Str.ofString ", " ++ PyData.shown (.int b)) ++ Str.ofString ")") = true
  exact ok_app (ok_app (ok_of _) (ok_app (ok_app (ok_int _) (ok_of _)) (ok_int _))) (ok_of _)
theorem small_text {i : Int} (h : i.natAbs < 2 ^ 500) : (PyData.shown (.int i)).length ≤ 501 := by
  show (Str.ofString (toString i)).length ≤ 501
  rw [PySem.ofString_length]
  refine int_text_length_le (by decide) ?_
  rcases Nat.eq_zero_or_pos i.natAbs with h0 | hp
  · rw [h0]; decide
  · exact (Nat.log2_lt (Nat.ne_of_gt hp)).mpr h
theorem small_log {i : Int} (h : i.natAbs < 2 ^ 500) : decide (i.natAbs.log2 < 1920) = true := by
  refine decide_eq_true ?_
  rcases Nat.eq_zero_or_pos i.natAbs with h0 | hp
  · rw [h0]; decide
  · exact (Nat.log2_lt (Nat.ne_of_gt hp)).mpr (Nat.lt_of_lt_of_le h (Nat.pow_le_pow_right (by decide) (by decide)))
theorem show_two {a b : Int} (ha : a.natAbs < 2 ^ 500) (hb : b.natAbs < 2 ^ 500) : Showable (.tup [.int a, .int b]) := by
  refine ⟨rfl, ?_, ?_, ?_⟩
  · show (decide (a.natAbs.log2 < 1920) && (decide (b.natAbs.log2 < 1920) && true)) = true
    rw [small_log ha, small_log hb]
    rfl
  · have e : (pd (.tup [.int a, .int b])).depth = 1 := rfl
    omega
  · show (tupleText [PyData.shown (.int a), PyData.shown (.int b)]).length ≤ sizeLine
    refine Nat.le_trans (tupleText_len_le _) ?_
    have h1 := small_text ha
    have h2 := small_text hb
    rw [sizeLine_eq]
    simp only [List.map_cons, List.map_nil, List.sum_cons, List.sum_nil, List.length_cons, List.length_nil]
    omega
theorem Row.Ok.big {r : Row} (hr : r.Ok) : r.w.natAbs < 2 ^ 500 ∧ r.l.natAbs < 2 ^ 500 ∧ (∀ i, r.m = some i → i.natAbs < 2 ^ 500) ∧ r.g.natAbs < 2 ^ 500 ∧ r.s.natAbs < 2 ^ 500 := by
  have p : 10 ^ 30 < 2 ^ 500 := by decide +kernel
  have w0 := hr.w0
  have w1 := hr.w1
  have l0 := hr.l0
  have l1 := hr.l1
  have g0 := hr.g0
  have g1 := hr.g1
  have s0 := hr.s0
  have s1 := hr.s1
  refine ⟨Nat.lt_of_le_of_lt (show r.w.natAbs ≤ 10 ^ 30 by omega) p, Nat.lt_of_le_of_lt (show r.l.natAbs ≤ 10 ^ 30 by omega) p, fun i hi => ?_, Nat.lt_of_le_of_lt (show r.g.natAbs ≤ 10 ^ 30 by omega) p, Nat.lt_of_le_of_lt (show r.s.natAbs ≤ 10 ^ 30 by omega) p⟩
  have := hr.m0 i hi
  exact Nat.lt_of_le_of_lt (show i.natAbs ≤ 10 ^ 30 by omega) p
theorem show_six {r : Row} (hr : r.Ok) {o : Int} (ho : o.natAbs < 2 ^ 500) : Showable (.lst (rowL r ++ [.int o])) := by
  obtain ⟨bw, bl, bm, bg, bs⟩ := hr.big
  have lc : (PyData.shown (pd (optD r.m))).length ≤ 501 := by
    cases e : r.m with
    | none => decide
    | some i => exact small_text (bm i e)
  refine ⟨?_, ?_, ?_, ?_⟩
  · obtain ⟨w, l, m, g, s⟩ := r
    cases m <;> rfl
  · show (decide (r.w.natAbs.log2 < 1920) && (decide (r.l.natAbs.log2 < 1920) && (PyData.showable (pd (optD r.m)) && (decide (r.g.natAbs.log2 < 1920) && (decide (r.s.natAbs.log2 < 1920) && (decide (o.natAbs.log2 < 1920) && true)))))) = true
    rw [small_log bw, small_log bl, small_log bg, small_log bs, small_log ho]
    cases e : r.m with
    | none => rfl
    | some i => show (true && (true && (decide (i.natAbs.log2 < 1920) && (true && (true && (true && true)))))) = true; rw [small_log (bm i e)]; rfl
  · have e : (pd (.lst (rowL r ++ [.int o]))).depth = 1 := by
      obtain ⟨w, l, m, g, s⟩ := r
      cases m <;> rfl
    omega
  · show (listText [PyData.shown (.int r.w), PyData.shown (.int r.l), PyData.shown (pd (optD r.m)), PyData.shown (.int r.g), PyData.shown (.int r.s), PyData.shown (.int o)]).length ≤ sizeLine
    refine Nat.le_trans (listText_len_le _) ?_
    have h1 := small_text bw
    have h2 := small_text bl
    have h3 := small_text bg
    have h4 := small_text bs
    have h5 := small_text ho
    rw [sizeLine_eq]
    simp only [List.map_cons, List.map_nil, List.sum_cons, List.sum_nil, List.length_cons, List.length_nil]
    omega
section
variable {K : PySem.W.Frag} {C : CI} {Δ : Store} {P : D → Store → Prop}
theorem ne_same {x y : D} (e : rd Δ x = rd Δ y) (hs : shp (rd Δ y) = true) (p : P (.bl false) Δ) : zNe x y Δ P := by
  refine ⟨by rw [e]; exact hs, hs, ?_⟩
  rw [e]
  unfold eqD
  rw [SeqAt.eqv_refl _ (SeqAt.canLay_of_shaped (Bool.and_eq_true_iff.mp hs).2)]
  exact p
theorem shp_str {x : Str} (h : PyData.strOk x = true) : shp (.str x) = true := by
  show (true && (PyData.strOk x && decide _)) = true
  rw [h]
  rfl
end
end Bx

namespace Bx
open PySem PySem.Spec PyProof.Rows L2 Z
local macro_rules | `(tactic| walk_at "zz") => `(tactic| simp only [zSeq, zAsg, zRet, zRetN, zIfS, zNext, zDrop, zPar, zVar, zC, zOp, zUn, zNeg, zI0, zI, zTest, zAnd, zOr, zNot, zAndV, zOrV, zNotV, zIf, zNil, zCons, zTup, zLst, zLstC, zgName, zgTup, zgCons, zgNil, zgSub, startZ, zCall, zCB, zChain, zIsN, zNotN, zNever,
  zAddA, zMulA, zRepeat, zCat, zIx, seqD, lstD, zMax2, zMin2, zAbs, zLen, zSum, zGcd, zInt, zYes, zBreak, zCont, zLc, ziR1, ziR2, ziList, ziTup, ziZip, ziEnum, wipeZ, zFor,
  at0, at1, at2, at3, at4, ix2_3, ix0_3, isNon_int, isNon_non, Bool.not_true, Bool.not_false,
  List.map_cons, List.map_nil, List.length_cons, List.length_nil, List.replicate_succ, List.replicate_zero, List.append_nil, List.nil_append, List.cons_append, List.getElem?_cons_zero, List.getElem?_cons_succ, List.set_cons_zero, List.set_cons_succ,
  Option.some.injEq, D.int.injEq, D.bl.injEq, D.tup.injEq, D.lst.injEq, D.str.injEq, D.cell.injEq, O.lst.injEq, reduceCtorEq, exists_eq_left', exists_eq_left, false_and, and_false, true_and, and_true, exists_false, or_false, false_or, exists_and_left, exists_eq', exists_and_right, List.cons.injEq, and_assoc, dec_not, dec_yes, t_t, t_f, f_t, f_f, true_implies, false_implies, implies_true, and_self, Nat.reduceAdd, Nat.reduceLeDiff, Nat.reduceSub, Nat.reduceLT])
local macro_rules | `(tactic| walk_at "zy") => `(tactic| try simp only [Option.some.injEq, D.int.injEq, D.bl.injEq, D.tup.injEq, D.lst.injEq, D.str.injEq, D.cell.injEq, O.lst.injEq, reduceCtorEq, exists_eq_left', exists_eq_left, false_and, and_false, true_and, and_true, exists_false, or_false, false_or, exists_and_left, exists_eq', exists_and_right, List.cons.injEq, and_assoc, dec_not, dec_yes, t_t, t_f, f_t, f_f, true_implies, false_implies, implies_true, and_self])
/-! ### the levels asked at -/
theorem seq_cut {t u : ZS} {Ze : ZEnds} {Γ : Z.Env} {Δ : Store} (h : ∀ rest : Z.Env → Store → Prop, rest = u Ze → t { Ze with nx := rest } Γ Δ) : zSeq t u Ze Γ Δ := h _ rfl
def Lv (x : Rat) : Prop := x.den ≤ 10 ^ 18 ∧ x.num.natAbs ≤ 10 ^ 100
theorem Lv.int {i : Int} (h : i.natAbs ≤ 10 ^ 100) : Lv (i : Rat) := ⟨show 1 ≤ 10 ^ 18 by decide, h⟩
theorem sm2 {i : Int} (h0 : 0 ≤ i) (h : i ≤ 10 ^ 40) : i.natAbs < 2 ^ 8000 := Nat.lt_of_lt_of_le (natAbs_lt (n := 140) h0 (Int.lt_of_le_of_lt h (by decide))) (Nat.pow_le_pow_right (by decide) (by decide))
theorem Lv.div {a b : Int} (h0 : b ≠ 0) (hb : b.natAbs ≤ 10 ^ 18) (ha : a.natAbs ≤ 10 ^ 100) : Lv (Rat.divInt a b) := ⟨Nat.le_trans (den_le a b h0) hb, Nat.le_trans (num_le a b) ha⟩
/-- the store while the list at its end is made -/
structure LS (Δ : Store) (n : Nat) (xs : List Rat) (E : Store) : Prop where
  len : E.length = Δ.length + 1
  fnd : E[Δ.length]? = some (.lst (xs.map frD))
  bag : BagAt E n
  nl : n < Δ.length
  oth : ∀ m, m ≠ n → m < Δ.length → E[m]? = Δ[m]?
theorem LS.pick {Δ E E' : Store} {n : Nat} {xs : List Rat} (h : LS Δ n xs E) (o : Off n E E') (b : BagAt E' n) : LS Δ n xs E' :=
  ⟨o.len.trans h.len, by rw [o.at_ _ (by have := h.nl; omega)]; exact h.fnd, b, h.nl, fun m h1 h2 => (o.at_ m h1).trans (h.oth m h1 h2)⟩
theorem LS.app {Δ E : Store} {n : Nat} {xs : List Rat} (h : LS Δ n xs E) (x : Rat) : LS Δ n (xs ++ [x]) (E.set Δ.length (.lst (xs.map frD ++ [frD x]))) := by
  have nl := h.nl
  refine ⟨by rw [List.length_set]; exact h.len, ?_, ?_, nl, fun m h1 h2 => ?_⟩
  · rw [set_get h.fnd, List.map_append]
    rfl
  · obtain ⟨x, y, z, e, hx⟩ := h.bag
    exact ⟨x, y, z, by rw [List.getElem?_set_ne (by omega)]; exact e, hx⟩
  · rw [List.getElem?_set_ne (by omega)]
    exact h.oth m h1 h2
theorem below_fr : ∀ (k : Nat) (xs : List Rat), belowL k (xs.map frD) = true
  | _, [] => rfl
  | k, x :: xs => by
    show (below k (frD x) && belowL k (xs.map frD)) = true
    rw [below_fr k xs]
    rfl
theorem LS.done {Δ E : Store} {n : Nat} {xs : List Rat} (h : LS Δ n xs E) : ∃ Δ1, E = Δ1 ++ [.lst (xs.map frD)] ∧ Δ1.length = Δ.length ∧ (∀ (m : Nat) (o : O), Δ1[m]? = some o → Δ[m]? = some o ∨ blwO Δ.length o = true) ∧ BagAt Δ1 n ∧ Off n Δ Δ1 := by
  have nl := h.nl
  have hl := h.len
  have e : E = E.take Δ.length ++ [.lst (xs.map frD)] := by
    have hh := h.fnd
    have hlt : Δ.length < E.length := by omega
    have := List.take_append_drop Δ.length E
    have hd : E.drop Δ.length = [.lst (xs.map frD)] := by
      rw [List.drop_eq_getElem_cons hlt]
      have h1 : E[Δ.length] = .lst (xs.map frD) := by
        have := List.getElem?_eq_getElem hlt
        rw [hh] at this
        exact (Option.some.inj this).symm
      have h2 : E.drop (Δ.length + 1) = [] := List.drop_eq_nil_of_le (by omega)
      rw [h1, h2]
    rw [← hd]
    exact this.symm
  have gt : ∀ m, m < Δ.length → (E.take Δ.length)[m]? = E[m]? := fun m hm => List.getElem?_take_of_lt hm
  have lt : (E.take Δ.length).length = Δ.length := by rw [List.length_take]; omega
  obtain ⟨x, y, z, eb, hx⟩ := h.bag
  refine ⟨E.take Δ.length, e, lt, fun m o hm => ?_, ⟨x, y, z, by rw [gt n nl]; exact eb, hx⟩, ⟨lt, fun m hm => ?_⟩⟩
  · have hm2 : m < Δ.length := by
      have := (List.getElem?_eq_some_iff.mp hm).1
      omega
    rw [gt m hm2] at hm
    by_cases q : m = n
    · subst q
      rw [eb] at hm
      cases hm
      exact .inr rfl
    · rw [h.oth m q hm2] at hm
      exact .inl hm
  · rcases Nat.lt_or_ge m Δ.length with h2 | h2
    · rw [gt m h2]
      exact h.oth m hm h2
    · rw [List.getElem?_eq_none (by omega), List.getElem?_eq_none h2]
section
variable {K : PySem.W.Frag} {C : CI} {Δ : Store} {P : D → Store → Prop}
theorem lv_ok {r : Row} {n : Nat} (hr : r.Ok) (hb : BagAt Δ n) (h : ∀ (xs : List Rat) (Δ' : Store), (∀ x ∈ xs, Lv x) → xs.length ≤ 20 → BagAt Δ' n → Off n Δ Δ' → P (.lst (xs.map frD)) Δ') : frzM (W__law_level_list K C) [.cell n, rowD r] Δ P := by
  have w0 := hr.w0
  have w1 := hr.w1
  have l0 := hr.l0
  have l1 := hr.l1
  unfold frzM W__law_level_list
  refine ⟨rfl, ?_⟩
  have fin : ∀ (xs : List Rat) (E : Store), (∀ x ∈ xs, Lv x) → xs.length ≤ 20 → LS Δ n xs E → ∃ es Δ1, Δ.length = Δ1.length ∧ E = Δ1 ++ [.lst es] ∧ Δ1.length = Δ.length ∧ (∀ (m : Nat) (o : O), Δ1[m]? = some o → Δ[m]? = some o ∨ blwO Δ.length o = true) ∧ belowL Δ.length es = true ∧ P (.lst es) Δ1 := fun xs E hx hl hs => by
    obtain ⟨Δ1, h1, h2, h3, h4, h5⟩ := hs.done
    exact ⟨_, Δ1, h2.symm, h1, h2, h3, below_fr _ _, h xs Δ1 hx hl h4 h5⟩
  unfold z__law_level_list
  refine seq_cut fun rest hrs => ?_
  walk_at "zz"
  refine pick_ok hb (by decide) (sm (by decide) (by decide)) fun t Δ1 t0 t1 hb1 o1 => ?_
  walk_at "zy"
  refine pick_ok hb1 (by decide) (sm (by decide) (by decide)) fun u Δ2 u0 u1 hb2 o2 => ?_
  walk_at "zy"
  refine ratio_ok (by omega) (sm (by omega) (by omega)) ?_
  have v4 : Lv (Rat.divInt (t - 50) (1 + u)) := .div (by omega) (by omega) (by omega)
  generalize Rat.divInt (t - 50) (1 + u) = x4 at *
  have nl : n < Δ.length := by
    obtain ⟨x, y, z, e, _⟩ := hb
    exact (List.getElem?_eq_some_iff.mp e).1
  have len2 : Δ2.length = Δ.length := o2.len.trans o1.len
  have s0 : LS Δ n [(0 : Int), (1 : Int), (-1 : Int), x4] (Δ2 ++ [.lst [.tup [.int 0, .int 1], .tup [.int 1, .int 1], .tup [.int (-1), .int 1], frD x4]]) := by
    refine ⟨by rw [List.length_append, len2]; rfl, by rw [← len2]; exact get_end, ?_, nl, fun m h1 h2 => ?_⟩
    · obtain ⟨x, y, z, e, hx⟩ := hb2
      exact ⟨x, y, z, by rw [List.getElem?_append_left (by omega)]; exact e, hx⟩
    · rw [List.getElem?_append_left (by omega), o2.at_ m h1, o1.at_ m h1]
  have hv0 : ∀ x ∈ [((0 : Int) : Rat), ((1 : Int) : Rat), ((-1 : Int) : Rat), x4], Lv x := fun x hx => by
    simp only [List.mem_cons, List.not_mem_nil, or_false] at hx
    rcases hx with rfl | rfl | rfl | rfl
    · exact .int (by decide)
    · exact .int (by decide)
    · exact .int (by decide)
    · exact v4
  rw [len2]
  generalize hxs : [((0 : Int) : Rat), ((1 : Int) : Rat), ((-1 : Int) : Rat), x4] = xs at *
  have lx : xs.length = 4 := by rw [← hxs]; rfl
  have e0 : (Δ2 ++ [O.lst [D.tup [D.int 0, D.int 1], D.tup [D.int 1, D.int 1], D.tup [D.int (-1), D.int 1], frD x4]]) = (Δ2 ++ [O.lst [D.tup [D.int 0, D.int 1], D.tup [D.int 1, D.int 1], D.tup [D.int (-1), D.int 1], frD x4]]) := rfl
  generalize (Δ2 ++ [O.lst [D.tup [D.int 0, D.int 1], D.tup [D.int 1, D.int 1], D.tup [D.int (-1), D.int 1], frD x4]]) = E0 at *
  clear e0 hxs v4
  subst hrs
  refine seq_cut fun rest hrs => ?_
  walk_at "zz"
  refine pick_ok s0.bag (by decide) (sm (by decide) (by decide)) fun k E1 k0 k1 hb3 o3 => ?_
  refine ⟨k, rfl, .l (by decide) (by decide), ?_⟩
  have s1 := s0.pick o3 hb3
  have sg : (2 * k - 1).natAbs = 1 := by omega
  generalize 2 * k - 1 = sgn at *
  subst hrs
  refine seq_cut fun rest hrs => ?_
  unfold zDrop zAppend
  walk_at "zz"
  refine ⟨⟨_, s1.fnd⟩, ⟨by decide, by decide, by decide⟩, ?_⟩
  refine pick_ok s1.bag (by decide) (sm2 (by decide) (by decide)) fun a E2 a0 a1 hb4 o4 => ?_
  have s2 := s1.pick o4 hb4
  refine ⟨a, rfl, .l (by omega) (by omega), ⟨by decide, by decide, by decide⟩, ?_⟩
  refine pick_ok s2.bag (by decide) (sm (by decide) (by decide)) fun b E3 b0 b1 hb5 o5 => ?_
  have s3 := s2.pick o5 hb5
  have a1' : a < 10 ^ 40 := a1
  have b1' : b < 10 ^ 9 := b1
  have an : (sgn * a).natAbs ≤ 10 ^ 100 := by
    rw [Int.natAbs_mul, sg]
    omega
  refine ⟨b, rfl, ratio_ok (by omega) (sm (by omega) (by omega)) ?_⟩
  have v5 : Lv (Rat.divInt (sgn * a) (1 + b)) := .div (by omega) (by omega) an
  generalize Rat.divInt (sgn * a) (1 + b) = x5 at *
  refine ⟨_, s3.fnd, by rw [List.length_map]; omega, ?_⟩
  have s4 := s3.app x5
  have l4 : (xs ++ [x5]).length = 5 := by rw [List.length_append, lx]; rfl
  have hv4 : ∀ x ∈ xs ++ [x5], Lv x := fun x hx => by
    rcases List.mem_append.mp hx with hx | hx
    · exact hv0 x hx
    · rw [List.mem_singleton] at hx; subst hx; exact v5
  generalize xs ++ [x5] = ys at *
  generalize E3.set Δ.length (O.lst (List.map frD xs ++ [frD x5])) = E4 at *
  subst hrs
  refine seq_cut fun rest hrs => ?_
  unfold zDrop zAppend
  walk_at "zz"
  refine ⟨⟨_, s4.fnd⟩, ⟨by decide, by decide, by decide⟩, ⟨by decide, by decide, by decide⟩, ?_⟩
  refine ⟨.w 300 300 (by decide +kernel) (by decide +kernel), ⟨by decide, by decide, by decide⟩, ?_⟩
  refine pick_ok s4.bag (by decide) (sm (by decide) (by decide)) fun d E5 d0 d1 hb6 o6 => ?_
  have s5 := s4.pick o6 hb6
  have d1' : d < 10 ^ 30 := d1
  have big : ∀ v : Int, v = (10 : Int) ^ Int.toNat 64 * 10 ^ Int.toNat 35 - d → (sgn * v).natAbs ≤ 10 ^ 100 := fun v e => by
    have e2 : v = 10 ^ 64 * 10 ^ 35 - d := e
    rw [Int.natAbs_mul, sg]
    omega
  refine ⟨d, rfl, .l (by omega) (by omega), _, s5.fnd, by rw [List.length_map]; omega, ?_⟩
  have v6 : Lv ((sgn * (10 ^ Int.toNat 64 * 10 ^ Int.toNat 35 - d) : Int) : Rat) := .int (big _ rfl)
  rw [show D.tup [D.int (sgn * (10 ^ Int.toNat 64 * 10 ^ Int.toNat 35 - d)), D.int 1] = frD ((sgn * (10 ^ Int.toNat 64 * 10 ^ Int.toNat 35 - d) : Int) : Rat) from rfl]
  generalize ((sgn * (10 ^ Int.toNat 64 * 10 ^ Int.toNat 35 - d) : Int) : Rat) = x6 at *
  have s6 := s5.app x6
  have l6 : (ys ++ [x6]).length = 6 := by rw [List.length_append, l4]; rfl
  have hv6 : ∀ x ∈ ys ++ [x6], Lv x := fun x hx => by
    rcases List.mem_append.mp hx with hx | hx
    · exact hv4 x hx
    · rw [List.mem_singleton] at hx; subst hx; exact v6
  generalize ys ++ [x6] = zs at *
  generalize E5.set Δ.length (O.lst (List.map frD ys ++ [frD x6])) = E6 at *
  subst hrs
  refine seq_cut fun rest hrs => ?_
  walk_at "zz"
  unfold rowD
  walk_at "zz"
  refine loop_inv (I := fun i Γ E => (∃ u v, Γ = [some (.cell n), some (rowD r), some (.cell Δ.length), some (.int sgn), u, v]) ∧ ∃ xs : List Rat, LS Δ n xs E ∧ (∀ x ∈ xs, Lv x) ∧ xs.length ≤ 6 + 4 * i) _ 0 _ _ ⟨⟨_, _, rfl⟩, zs, s6, hv6, by omega⟩ (fun i x Γ E Ze' hx hI hn _ _ _ => ?_) (fun Γ E hI => ?_)
  · obtain ⟨⟨u, v, rfl⟩, xs1, t1, t2, t3⟩ := hI
    have hi : i < 2 := (List.getElem?_eq_some_iff.mp hx).1
    obtain ⟨bd, rfl, hbd⟩ : ∃ bd : Option Int, x = optD bd ∧ ∀ j, bd = some j → 0 ≤ j ∧ j ≤ 10 ^ 30 := by
      have := List.mem_of_getElem? hx
      simp only [List.mem_cons, List.not_mem_nil, or_false] at this
      rcases this with rfl | rfl
      · exact ⟨some r.l, rfl, fun j q => by cases q; exact ⟨l0, l1⟩⟩
      · exact ⟨r.m, rfl, fun j q => by have := hr.m0 j q; omega⟩
    walk_at "zz"
    unfold rowD
    walk_at "zz"
    refine loop_inv (I := fun j Γ E => (∃ v, Γ = [some (.cell n), some (rowD r), some (.cell Δ.length), some (.int sgn), some (optD bd), v]) ∧ ∃ xs : List Rat, LS Δ n xs E ∧ (∀ x ∈ xs, Lv x) ∧ xs.length ≤ 6 + 4 * i + 2 * j) _ 0 _ _ ⟨⟨_, rfl⟩, xs1, t1, t2, by omega⟩ (fun j x Γ E Ze2 hx2 hI hn2 _ _ _ => ?_) (fun Γ E hI => ?_)
    · obtain ⟨⟨v, rfl⟩, xs2, t4, t5, t6⟩ := hI
      have hj : j < 2 := (List.getElem?_eq_some_iff.mp hx2).1
      obtain ⟨wt, rfl, wt0, wt1⟩ : ∃ wt : Int, x = .int wt ∧ 0 ≤ wt ∧ wt ≤ 10 ^ 6 := by
        have := List.mem_of_getElem? hx2
        simp only [List.mem_cons, List.not_mem_nil, or_false] at this
        rcases this with rfl | rfl
        · exact ⟨_, rfl, hr.g0, hr.g1⟩
        · exact ⟨_, rfl, hr.s0, hr.s1⟩
      unfold zAppend
      walk_at "zz"
      unfold rowD
      walk_at "zz"
      refine ⟨fun hb1 => ⟨fun hw => ?_, fun hw => hn2 _ _ ⟨⟨_, rfl⟩, xs2, t4, t5, by omega⟩⟩, fun hb1 => hn2 _ _ ⟨⟨_, rfl⟩, xs2, t4, t5, by omega⟩⟩
      cases bd with
      | none => cases hb1
      | some b =>
        have hb := hbd b rfl
        refine ⟨⟨_, t4.fnd⟩, b, rfl, ratio_ok (by omega) (sm (by omega) (by omega)) ?_⟩
        have v1 : Lv (Rat.divInt (b - r.w) wt) := .div (by omega) (by omega) (by omega)
        generalize Rat.divInt (b - r.w) wt = y1 at *
        have s7 := t4.app y1
        have hv7 : ∀ x ∈ xs2 ++ [y1], Lv x := fun x hx => by
          rcases List.mem_append.mp hx with hx | hx
          · exact t5 x hx
          · rw [List.mem_singleton] at hx; subst hx; exact v1
        have l7 : (xs2 ++ [y1]).length = xs2.length + 1 := by rw [List.length_append]; rfl
        refine ⟨_, t4.fnd, by rw [List.length_map]; omega, ⟨_, s7.fnd⟩, b, rfl, ?_⟩
        generalize E.set Δ.length (O.lst (List.map frD xs2 ++ [frD y1])) = E7 at *
        generalize xs2 ++ [y1] = xs3 at *
        refine pick_ok s7.bag (by decide) (sm (by decide) (by decide)) fun t E8 t0 t1 hb8 o8 => ?_
        have s8 := s7.pick o8 hb8
        refine ⟨t, rfl, .l (by decide) (by decide), ratio_ok (by omega) (sm (by omega) (by omega)) ?_⟩
        have v2 : Lv (Rat.divInt (b - r.w + 1 - 2 * t) wt) := .div (by omega) (by omega) (by omega)
        generalize Rat.divInt (b - r.w + 1 - 2 * t) wt = y2 at *
        have s9 := s8.app y2
        refine ⟨_, s8.fnd, by rw [List.length_map]; omega, hn2 _ _ ⟨⟨_, rfl⟩, xs3 ++ [y2], s9, fun x hx => ?_, by rw [List.length_append]; show _ + 1 ≤ _; omega⟩⟩
        rcases List.mem_append.mp hx with hx | hx
        · exact hv7 x hx
        · rw [List.mem_singleton] at hx; subst hx; exact v2
    · obtain ⟨⟨v, rfl⟩, xs2, t4, t5, t6⟩ := hI
      exact hn _ _ ⟨⟨_, _, rfl⟩, xs2, t4, t5, by simp at t6; omega⟩
  · obtain ⟨⟨u, v, rfl⟩, xs1, t1, t2, t3⟩ := hI
    show rest _ _
    subst hrs
    walk_at "zz"
    exact fin xs1 E t2 (by simp at t3; omega) t1
end
end Bx

namespace Bx
open PySem PySem.Spec PyProof.Rows L2 Z
local macro_rules | `(tactic| walk_at "zz") => `(tactic| simp only [zSeq, zAsg, zRet, zRetN, zIfS, zNext, zDrop, zPar, zVar, zC, zOp, zUn, zNeg, zI0, zI, zTest, zAnd, zOr, zNot, zAndV, zOrV, zNotV, zIf, zNil, zCons, zTup, zLst, zLstC, zgName, zgTup, zgCons, zgNil, zgSub, startZ, zCall, zCB, zChain, zIsN, zNotN, zNever,
  zAddA, zMulA, zRepeat, zCat, zIx, seqD, lstD, zMax2, zMin2, zAbs, zLen, zSum, zGcd, zInt, zYes, zBreak, zCont, zLc, ziR1, ziR2, ziList, ziTup, ziZip, ziEnum, wipeZ, zFor,
  at0, at1, at2, at3, at4, ix2_3, ix0_3, isNon_int, isNon_non, Bool.not_true, Bool.not_false,
  List.map_cons, List.map_nil, List.length_cons, List.length_nil, List.replicate_succ, List.replicate_zero, List.append_nil, List.nil_append, List.cons_append, List.getElem?_cons_zero, List.getElem?_cons_succ, List.set_cons_zero, List.set_cons_succ,
  Option.some.injEq, D.int.injEq, D.bl.injEq, D.tup.injEq, D.lst.injEq, D.str.injEq, D.cell.injEq, O.lst.injEq, reduceCtorEq, exists_eq_left', exists_eq_left, false_and, and_false, true_and, and_true, exists_false, or_false, false_or, exists_and_left, exists_eq', exists_and_right, List.cons.injEq, and_assoc, dec_not, dec_yes, t_t, t_f, f_t, f_f, true_implies, false_implies, implies_true, and_self, Nat.reduceAdd, Nat.reduceLeDiff, Nat.reduceSub, Nat.reduceLT])
local macro_rules | `(tactic| walk_at "zy") => `(tactic| try simp only [Option.some.injEq, D.int.injEq, D.bl.injEq, D.tup.injEq, D.lst.injEq, D.str.injEq, D.cell.injEq, O.lst.injEq, reduceCtorEq, exists_eq_left', exists_eq_left, false_and, and_false, true_and, and_true, exists_false, or_false, false_or, exists_and_left, exists_eq', exists_and_right, List.cons.injEq, and_assoc, dec_not, dec_yes, t_t, t_f, f_t, f_f, true_implies, false_implies, implies_true, and_self])
/-! ### own == -/
structure Kn (K : PySem.W.Frag) (C : CI) : Prop where
  f : Kf K C
  no : ∀ n ∈ plainTys, PySem.W.kitOne K (.type n) (.ref (C.adr 0)) = some false
section
variable {K : PySem.W.Frag} {C : CI} {Δ : Store} {P : D → Store → Prop}
theorem isi_no (F : Kn K C) {x : D} {n : String} (hn : n ∈ plainTys) (h1 : tyD C Δ x = some (.type n)) (p : P (.bl false) Δ) : zIsi K C [x, .cls 0] Δ P :=
  ⟨x, _, _, _, false, rfl, h1, rfl, (fun _ q => nomatch q), F.no n hn, p⟩
theorem eq_int {i j : Int} (p : P (.bl (i == j)) Δ) : zEq (.int i) (.int j) Δ P := ⟨rfl, rfl, p⟩
theorem eq_opt {i j : Option Int} (p : P (.bl (i == j)) Δ) : zEq (optD i) (optD j) Δ P := by
  cases i <;> cases j <;> exact ⟨rfl, rfl, p⟩
def sameB (r r2 : Row) : Bool := r.w == r2.w && (r.l == r2.l && (r.m == r2.m && (r.g == r2.g && r.s == r2.s)))
theorem eqB_ok (F : Kn K C) {r r2 : Row} (p : P (.bl (sameB r r2)) Δ) : W_Box_d_eq_d K C [boxD r, boxD r2] Δ P := by
  unfold W_Box_d_eq_d z_Box_d_eq_d zFld
  unfold sameB at p
  walk_at "zz"
  refine isi_own F.f.isi rfl ⟨true, rfl, fun _ => ?_, fun q => nomatch q⟩
  refine ⟨_, fld F.f rfl, _, fld F.f rfl, eq_int ⟨_, rfl, fun h => ?_, fun h => ?_⟩⟩
  · rw [h, Bool.true_and] at p
    refine ⟨_, fld F.f rfl, _, fld F.f rfl, eq_int ⟨_, rfl, fun h => ?_, fun h => ?_⟩⟩
    · rw [h, Bool.true_and] at p
      refine ⟨_, fld F.f rfl, _, fld F.f rfl, eq_opt ⟨_, rfl, fun h => ?_, fun h => ?_⟩⟩
      · rw [h, Bool.true_and] at p
        refine ⟨_, fld F.f rfl, _, fld F.f rfl, eq_int ⟨_, rfl, fun h => ?_, fun h => ?_⟩⟩
        · rw [h, Bool.true_and] at p
          exact ⟨_, fld F.f rfl, _, fld F.f rfl, eq_int p⟩
        · rw [h, Bool.false_and] at p; exact p
      · rw [h, Bool.false_and] at p; exact p
    · rw [h, Bool.false_and] at p; exact p
  · rw [h, Bool.false_and] at p; exact p
theorem same_refl (r : Row) : sameB r r = true := by unfold sameB; simp
theorem same_eq {r r2 : Row} (h : sameB r r2 = true) : r = r2 := by
  unfold sameB at h
  simp only [Bool.and_eq_true, beq_iff_eq] at h
  obtain ⟨w, l, m, g, s⟩ := r
  obtain ⟨w2, l2, m2, g2, s2⟩ := r2
  obtain ⟨rfl, rfl, rfl, rfl, rfl⟩ := h
  rfl
theorem eqA_box (F : Kn K C) {r r2 : Row} (p : P (.bl (sameB r r2)) Δ) : zEqA C 0 (W_Box_d_eq_d K C) (boxD r) (boxD r2) Δ P :=
  .inr ⟨ins_box, ⟨_, rfl, .inl rfl⟩, eqB_ok F ⟨_, rfl, p⟩⟩
theorem eqA_no (F : Kn K C) {r : Row} {x : D} {n : String} (hn : n ∈ plainTys) (h1 : tyD C Δ x = some (.type n)) (p : P (.bl false) Δ) : zEqA C 0 (W_Box_d_eq_d K C) (boxD r) x Δ P := by
  refine .inr ⟨ins_box, ⟨_, h1, .inr ⟨n, hn, rfl⟩⟩, ?_⟩
  unfold W_Box_d_eq_d z_Box_d_eq_d
  walk_at "zz"
  exact isi_no F hn h1 ⟨false, rfl, (fun q => nomatch q), fun _ => p⟩
theorem eqA_int {i j : Int} (p : P (.bl (i == j)) Δ) : zEqA C 0 (W_Box_d_eq_d K C) (.int i) (.int j) Δ P := .inl (eq_int p)
theorem below_row {k : Nat} {r : Row} : belowL k (rowL r) = true := by
  obtain ⟨w, l, m, g, s⟩ := r
  cases m <;> rfl
/-! ### a box's answers -/
theorem lim_abs {v l : Int} {m : Option Int} {B : Nat} (h1 : v.natAbs < B) (h2 : l.natAbs < B) (h3 : ∀ i, m = some i → i.natAbs < B) : (lim v l m).natAbs < B := by
  unfold lim
  split
  · exact h2
  · cases m with
    | none => exact h1
    | some i =>
      show (if i < v then i else v).natAbs < B
      split
      · exact h3 i rfl
      · exact h1
theorem scI_abs {r : Row} {p q : Int} (hr : r.Ok) (q0 : 0 < q) (q1 : q ≤ 10 ^ 18) (p1 : p.natAbs ≤ 10 ^ 100) : (scI r p q).natAbs < 2 ^ 500 := by
  have w0 := hr.w0
  have w1 := hr.w1
  have l0 := hr.l0
  have l1 := hr.l1
  have big : ∀ i : Int, 0 ≤ i → i ≤ 10 ^ 30 → (i * q).natAbs ≤ 10 ^ 30 * 10 ^ 18 := fun i h0 h1 => by
    rw [Int.natAbs_mul]
    exact Nat.mul_le_mul (by omega) (by omega)
  have bw : (p * (if 0 ≤ p then r.g else r.s)).natAbs ≤ 10 ^ 100 * 10 ^ 6 := by
    rw [Int.natAbs_mul]
    have := hr.g0; have := hr.g1; have := hr.s0; have := hr.s1
    refine Nat.mul_le_mul p1 ?_
    split <;> omega
  have b0 : 10 ^ 30 * 10 ^ 18 + 10 ^ 100 * 10 ^ 6 < 2 ^ 500 := by decide +kernel
  have b1 := big r.w w0 w1
  have b2 := big r.l l0 l1
  unfold scI
  generalize (p * (if 0 ≤ p then r.g else r.s)) = k at *
  generalize hB : 2 ^ 500 = B at *
  refine lim_abs (by omega) (by omega) fun i hi => ?_
  cases e : r.m with
  | none => rw [e] at hi; cases hi
  | some m =>
    rw [e] at hi
    cases hi
    have hm := hr.m0 m e
    have := big m (by omega) hm.2
    show (m * q).natAbs < B
    omega
theorem siz_show {r : Row} {p q : Int} (hr : r.Ok) (q0 : 0 < q) (q1 : q ≤ 10 ^ 18) (p1 : p.natAbs ≤ 10 ^ 100) : Showable (frD (siz r p q)) := by
  refine show_two (Nat.lt_of_le_of_lt (num_le _ _) (scI_abs hr q0 q1 p1)) ?_
  rw [den_abs]
  refine Nat.lt_of_le_of_lt (den_le _ _ (by omega)) (Nat.lt_of_le_of_lt (show q.natAbs ≤ 10 ^ 18 by omega) (by decide +kernel))
theorem own_abs {r : Row} (hr : r.Ok) : (ownI r).natAbs < 2 ^ 500 := by
  obtain ⟨b1, b2, b3, _, _⟩ := hr.big
  exact lim_abs b1 b2 b3
theorem reprs_ok {x : D} (h : Showable (rd Δ x)) (ho : PyData.strOk (pd (rd Δ x)).shown = true) (p : P (.bl false) Δ) : zNe (.str (pd (rd Δ x)).shown) (.str (pd (rd Δ x)).shown) Δ P := ne_same rfl (shp_str ho) p
/-- none of the items passes -/
theorem comp_no {zg : ZG} {zt : ZT} {ze : ZE} {Γ0 : Z.Env} {acc : List D} : ∀ items : List D, (∀ x ∈ items, ∀ Q : Z.Env → Bool → Store → Prop, (∀ Γ2, Q Γ2 false Δ) → zg x Γ0 Δ fun Γ2 Δ2 => zt Γ2 Δ2 (Q Γ2)) → P (.lst acc) Δ → compZ zg zt ze Γ0 P items acc Δ
  | [], _, h => h
  | x :: xs, hs, h => by
    rw [compZ]
    exact hs x List.mem_cons_self (fun Γ2 b Δ3 => (b = true → ze Γ2 Δ3 fun y Δ4 => acc.length < 100000 ∧ compZ zg zt ze Γ0 P xs (acc ++ [y]) Δ4) ∧ (b = false → compZ zg zt ze Γ0 P xs acc Δ3)) fun _ => ⟨(fun q => nomatch q), fun _ => comp_no xs (fun y hy => hs y (List.mem_cons_of_mem _ hy)) h⟩
end
end Bx

namespace Bx
open PySem PySem.Spec PyProof.Rows L2 Z
local macro_rules | `(tactic| walk_at "zz") => `(tactic| simp only [zSeq, zAsg, zRet, zRetN, zIfS, zNext, zDrop, zPar, zVar, zC, zOp, zUn, zNeg, zI0, zI, zTest, zAnd, zOr, zNot, zAndV, zOrV, zNotV, zIf, zNil, zCons, zTup, zLst, zLstC, zgName, zgTup, zgCons, zgNil, zgSub, startZ, zCall, zCB, zChain, zIsN, zNotN, zNever,
  zAddA, zMulA, zRepeat, zCat, zIx, seqD, lstD, zMax2, zMin2, zAbs, zLen, zSum, zGcd, zInt, zYes, zBreak, zCont, zLc, ziR1, ziR2, ziList, ziTup, ziZip, ziEnum, wipeZ, zFor,
  at0, at1, at2, at3, at4, ix2_3, ix0_3, isNon_int, isNon_non, Bool.not_true, Bool.not_false,
  List.map_cons, List.map_nil, List.length_cons, List.length_nil, List.replicate_succ, List.replicate_zero, List.append_nil, List.nil_append, List.cons_append, List.getElem?_cons_zero, List.getElem?_cons_succ, List.set_cons_zero, List.set_cons_succ,
  Option.some.injEq, D.int.injEq, D.bl.injEq, D.tup.injEq, D.lst.injEq, D.str.injEq, D.cell.injEq, O.lst.injEq, reduceCtorEq, exists_eq_left', exists_eq_left, false_and, and_false, true_and, and_true, exists_false, or_false, false_or, exists_and_left, exists_eq', exists_and_right, List.cons.injEq, and_assoc, dec_not, dec_yes, t_t, t_f, f_t, f_f, true_implies, false_implies, implies_true, and_self, Nat.reduceAdd, Nat.reduceLeDiff, Nat.reduceSub, Nat.reduceLT])
local macro_rules | `(tactic| walk_at "zy") => `(tactic| try simp only [Option.some.injEq, D.int.injEq, D.bl.injEq, D.tup.injEq, D.lst.injEq, D.str.injEq, D.cell.injEq, O.lst.injEq, reduceCtorEq, exists_eq_left', exists_eq_left, false_and, and_false, true_and, and_true, exists_false, or_false, false_or, exists_and_left, exists_eq', exists_and_right, List.cons.injEq, and_assoc, dec_not, dec_yes, t_t, t_f, f_t, f_f, true_implies, false_implies, implies_true, and_self])
/-! ### one number changed -/
def fieldO (r : Row) : Nat → Option Int
  | 0 => some r.w
  | 1 => some r.l
  | 2 => r.m
  | 3 => some r.g
  | _ => some r.s
def nv : Option Int → Int
  | none => 1
  | some i => if i < 10 ^ 6 then (if i = 1 then 0 else 1) else i - 1
def setRow (r : Row) (v : Int) : Nat → Row
  | 0 => { r with w := v }
  | 1 => { r with l := v }
  | 2 => { r with m := some v }
  | 3 => { r with g := v }
  | _ => { r with s := v }
theorem get_field {r : Row} {k : Nat} (hk : k < 5) : atI (rowL r) (k : Int) = some (optD (fieldO r k)) := by
  match k, hk with
  | 0, _ => exact at0
  | 1, _ => exact at1
  | 2, _ => exact at2
  | 3, _ => exact at3
  | 4, _ => exact at4
theorem set_field {r : Row} {k : Nat} {v : Int} (hk : k < 5) : (rowL r).set k (.int v) = rowL (setRow r v k) := by
  match k, hk with
  | 0, _ => rfl
  | 1, _ => rfl
  | 2, _ => rfl
  | 3, _ => rfl
  | 4, _ => rfl
theorem ix_field {k : Nat} (hk : k < 5) : ixN 5 (k : Int) = some k := by
  match k, hk with
  | 0, _ => decide
  | 1, _ => decide
  | 2, _ => decide
  | 3, _ => decide
  | 4, _ => decide
theorem nv_bounds {i B : Int} (h0 : 0 ≤ i) (h1 : i ≤ B) (hB : 1 ≤ B) : 0 ≤ nv (some i) ∧ nv (some i) ≤ B := by
  show 0 ≤ (if i < 10 ^ 6 then (if i = 1 then 0 else 1) else i - 1) ∧ (if i < 10 ^ 6 then (if i = 1 then 0 else 1) else i - 1) ≤ B
  split
  · split <;> omega
  · omega
theorem nv_ne {i : Int} : nv (some i) ≠ i := by
  show (if i < 10 ^ 6 then (if i = 1 then 0 else 1) else i - 1) ≠ i
  split
  · split <;> omega
  · omega
theorem set_ok {r : Row} {k : Nat} (hr : r.Ok) (hk : k < 5) (hm : ∀ i, (setRow r (nv (fieldO r k)) k).m = some i → (setRow r (nv (fieldO r k)) k).l ≤ i) : (setRow r (nv (fieldO r k)) k).Ok := by
  have w0 := hr.w0
  have w1 := hr.w1
  have l0 := hr.l0
  have l1 := hr.l1
  have g0 := hr.g0
  have g1 := hr.g1
  have s0 := hr.s0
  have s1 := hr.s1
  match k, hk with
  | 0, _ =>
    have b := nv_bounds w0 w1 (by decide)
    exact ⟨b.1, b.2, l0, l1, hr.m0, g0, g1, s0, s1⟩
  | 1, _ =>
    have b := nv_bounds l0 l1 (by decide)
    exact ⟨w0, w1, b.1, b.2, fun i hi => ⟨hm i hi, (hr.m0 i hi).2⟩, g0, g1, s0, s1⟩
  | 2, _ =>
    refine ⟨w0, w1, l0, l1, fun i hi => ⟨hm i hi, ?_⟩, g0, g1, s0, s1⟩
    have e : i = nv r.m := (Option.some.inj hi).symm
    cases q : r.m with
    | none => rw [e, q]; decide
    | some j =>
      have hj := hr.m0 j q
      rw [e, q]
      exact (nv_bounds (by omega) hj.2 (by decide)).2
  | 3, _ =>
    have b := nv_bounds g0 g1 (by decide)
    exact ⟨w0, w1, l0, l1, hr.m0, b.1, b.2, s0, s1⟩
  | 4, _ =>
    have b := nv_bounds s0 s1 (by decide)
    exact ⟨w0, w1, l0, l1, hr.m0, g0, g1, b.1, b.2⟩
theorem set_ne {r : Row} {k : Nat} (hk : k < 5) : setRow r (nv (fieldO r k)) k ≠ r := by
  match k, hk with
  | 0, _ => exact fun e => nv_ne (congrArg Row.w e)
  | 1, _ => exact fun e => nv_ne (congrArg Row.l e)
  | 2, _ =>
    intro e
    have e2 : some (nv r.m) = r.m := congrArg Row.m e
    cases q : r.m with
    | none => rw [q] at e2; cases e2
    | some j => rw [q] at e2; exact nv_ne (Option.some.inj e2)
  | 3, _ => exact fun e => nv_ne (congrArg Row.g e)
  | 4, _ => exact fun e => nv_ne (congrArg Row.s e)
theorem same_ne {r r2 : Row} (h : r ≠ r2) : sameB r r2 = false := by
  cases q : sameB r r2 with
  | false => rfl
  | true => exact absurd (same_eq q) h
/-! ### a box by its numbers -/
section
variable {K : PySem.W.Frag} {C : CI} {Δ : Store} {P : D → Store → Prop}
theorem right_ok (F : Kn K C) {r : Row} {n : Nat} (hr : r.Ok) (hb : BagAt Δ n) (h : ∀ Δ', BagAt Δ' n → P (.bl true) Δ') : W__law_box_right K C [.cell n, rowD r] Δ P := by
  unfold W__law_box_right
  refine ⟨rfl, ?_⟩
  unfold z__law_box_right
  refine seq_cut fun rest hrs => ?_
  unfold zMakeF
  walk_at "zz"
  unfold rowD
  walk_at "zz"
  refine init_ok hr ?_
  refine ⟨rfl, rowL r, by rw [F.f.nms], by rw [F.f.nms]; rfl, below_row, ?_⟩
  show rest [some (.cell n), some (rowD r), some (boxD r), none, none, none, none, none, none, none, none, none] Δ
  subst hrs
  refine seq_cut fun rest hrs => ?_
  walk_at "zz"
  refine ⟨by decide, by decide, ?_⟩
  refine loop_all (I := fun Γ E => (∃ u3 u4 u5, Γ = [some (.cell n), some (rowD r), some (boxD r), u3, u4, u5, none, none, none, none, none, none]) ∧ BagAt E n) ⟨⟨_, _, _, rfl⟩, hb⟩ (fun x Γ E Ze' hx hI hn _ _ _ => ?_) (fun Γ E hI => ?_)
  · obtain ⟨⟨u3, u4, u5, rfl⟩, hb1⟩ := hI
    unfold zProp zRepr zList
    walk_at "zz"
    refine ⟨ins_box, wish_ok F.f ⟨ins_box, least_ok F.f ⟨ins_box, most_ok F.f ⟨ins_box, grow_ok F.f ⟨ins_box, shrink_ok F.f ⟨ins_box, ownB_ok F.f ?_⟩⟩⟩⟩⟩⟩
    unfold rowD
    walk_at "zz"
    have six := show_six hr (own_abs hr)
    refine ⟨six, lown_ok hr ⟨six, ne_same rfl (shp_str (ok_six r (ownI r))) ⟨false, rfl, (fun q => nomatch q), fun _ => ?_⟩⟩⟩
    refine lv_ok hr hb1 fun xs E1 hv _ hb2 _ => .inl ⟨_, rfl, ?_⟩
    refine loop_all (I := fun Γ E' => (∃ u5, Γ = [some (.cell n), some (rowD r), some (boxD r), some x, some (.lst [.int r.w, .int r.l, optD r.m, .int r.g, .int r.s, .int (ownI r)]), u5, none, none, none, none, none, none]) ∧ E' = E1) ⟨⟨_, rfl⟩, rfl⟩ (fun y Γ E' Ze2 hy hI hn2 _ _ _ => ?_) (fun Γ E' hI => ?_)
    · obtain ⟨⟨u5', rfl⟩, rfl⟩ := hI
      obtain ⟨v, hv', rfl⟩ := List.mem_map.mp hy
      have lv := hv v hv'
      have vd := v.den_pos
      have sh := siz_show (r := r) (p := v.num) (q := (v.den : Int)) hr (by omega) (by have := lv.1; omega) lv.2
      have so := ok_two (siz r v.num v.den).num (siz r v.num v.den).den
      unfold zCallO
      walk_at "zz"
      refine ⟨ins_box, ins_box, callQ_ok F.f hr lv.1 ⟨sh, lsize_ok hr (by omega) (by have := lv.1; omega) lv.2 ⟨sh, ne_same rfl (shp_str so) ⟨false, rfl, (fun q => nomatch q), fun _ => ?_⟩⟩⟩⟩
      unfold frD
      walk_at "zz"
      refine eqA_int ⟨_, rfl, fun q1 => ?_, fun q1 => ?_⟩
      · have d1 : (v.den : Int) = 1 := by simpa using q1
        have e : siz r v.num (v.den : Int) = siz r v.num 1 := by rw [d1]
        refine ⟨ins_box, ins_box, callI_ok F.f hr ⟨by rw [← e]; exact sh, lsize_ok hr (by omega) (by have := lv.1; omega) lv.2 ⟨sh, ne_same (by rw [e]) (shp_str so) ⟨false, rfl, (fun q => nomatch q), fun _ => ?_⟩⟩⟩⟩
        exact hn2 _ _ ⟨⟨_, rfl⟩, rfl⟩
      · exact hn2 _ _ ⟨⟨_, rfl⟩, rfl⟩
    · obtain ⟨⟨u5', rfl⟩, rfl⟩ := hI
      exact hn _ _ ⟨⟨_, _, _, rfl⟩, hb2⟩
  · obtain ⟨⟨u3, u4, u5, rfl⟩, hb1⟩ := hI
    show rest _ _
    subst hrs
    refine seq_cut fun rest hrs => ?_
    unfold zMakeK
    walk_at "zz"
    unfold rowD
    walk_at "zz"
    refine init_ok hr ?_
    refine ⟨rfl, rowL r, by rw [F.f.nms], by rw [F.f.nms]; rfl, below_row, ?_⟩
    show rest [some (.cell n), some (rowD r), some (boxD r), u3, u4, u5, some (boxD r), none, none, none, none, none] E
    subst hrs
    refine seq_cut fun rest hrs => ?_
    unfold zMakeK
    walk_at "zz"
    unfold rowD
    walk_at "zz"
    refine init_ok hr ?_
    refine ⟨rfl, rowL r, by rw [F.f.nms], by rw [F.f.nms]; rfl, below_row, ?_⟩
    show rest [some (.cell n), some (rowD r), some (boxD r), u3, u4, u5, some (boxD r), some (boxD r), none, none, none, none] E
    subst hrs
    refine seq_cut fun rest hrs => ?_
    have yes : ∀ {Q : D → Store → Prop}, Q (.bl true) E → zEqA C 0 (W_Box_d_eq_d K C) (boxD r) (boxD r) E Q := fun q => eqA_box F (by rw [same_refl]; exact q)
    walk_at "zz"
    refine yes ⟨true, rfl, (fun q => nomatch q), fun _ => yes ⟨true, rfl, (fun q => nomatch q), fun _ => yes ⟨true, rfl, (fun q => nomatch q), fun _ => ?_⟩⟩⟩
    subst hrs
    refine seq_cut fun rest hrs => ?_
    unfold zSlT zMakeF
    walk_at "zz"
    unfold rowD
    walk_at "zz"
    have go : rest [some (.cell n), some (rowD r), some (boxD r), u3, u4, u5, some (boxD r), some (boxD r), none, none, none, none] E := by
      subst hrs
      refine seq_cut fun rest hrs => ?_
      refine ⟨5, rfl, by decide, by decide, ?_⟩
      refine loop_all (I := fun Γ E => (∃ u8 u9 u10, Γ = [some (.cell n), some (rowD r), some (boxD r), u3, u4, u5, some (boxD r), some (boxD r), u8, u9, u10, none]) ∧ BagAt E n) ⟨⟨_, _, _, rfl⟩, hb1⟩ (fun x Γ E Ze2 hx hI hn2 _ _ _ => ?_) (fun Γ E hI => ?_)
      · obtain ⟨⟨u8, u9, u10, rfl⟩, hb2⟩ := hI
        obtain ⟨k, hk, rfl⟩ : ∃ k : Nat, k < 5 ∧ x = .int (k : Int) := by
          obtain ⟨k, hk⟩ := List.mem_iff_getElem?.mp hx
          have hl := (List.getElem?_eq_some_iff.mp hk).1
          rw [rangeD_len] at hl
          rw [range_get hl] at hk
          cases hk
          exact ⟨k, hl, by rw [Int.zero_add]⟩
        simp only [zgName, List.set_cons_succ, List.set_cons_zero]
        refine seq_cut fun rest2 hr2 => ?_
        unfold zListC
        walk_at "zz"
        unfold rowD
        walk_at "zz"
        have em : (E ++ [O.lst (rowL r)])[E.length]? = some (.lst (rowL r)) := get_end
        have nm : E.length ≠ n := fun q => by
          obtain ⟨x, y, z, e3, _⟩ := hb2
          have := (List.getElem?_eq_some_iff.mp e3).1
          omega
        have hb3 : BagAt (E ++ [O.lst (rowL r)]) n := by
          obtain ⟨x, y, z, e3, hx⟩ := hb2
          exact ⟨x, y, z, by rw [List.getElem?_append_left (List.getElem?_eq_some_iff.mp e3).1]; exact e3, hx⟩
        show rest2 [some (.cell n), some (rowD r), some (boxD r), u3, u4, u5, some (boxD r), some (boxD r), some (.int (k : Int)), some (.cell E.length), u10, none] (E ++ [O.lst (rowL r)])
        generalize E ++ [O.lst (rowL r)] = E3 at *
        generalize E.length = m at *
        subst hr2
        refine seq_cut fun rest2 hr2 => ?_
        have ek : atI [D.int r.w, D.int r.l, optD r.m, D.int r.g, D.int r.s] (k : Int) = some (optD (fieldO r k)) := get_field hk
        have e4 : E3.set m (O.lst ((rowL r).set k (.int (nv (fieldO r k))))) = E3.set m (O.lst (rowL (setRow r (nv (fieldO r k)) k))) := by rw [set_field hk]
        have em4 := set_get em (.lst (rowL (setRow r (nv (fieldO r k)) k)))
        have hb4 : BagAt (E3.set m (O.lst (rowL (setRow r (nv (fieldO r k)) k)))) n := by
          obtain ⟨x, y, z, e3, hx⟩ := hb3
          exact ⟨x, y, z, by rw [List.getElem?_set_ne nm]; exact e3, hx⟩
        have okr := set_ok (r := r) (k := k) hr hk
        have ner := set_ne (r := r) hk
        have fin : rest2 [some (.cell n), some (rowD r), some (boxD r), u3, u4, u5, some (boxD r), some (boxD r), some (.int (k : Int)), some (.cell m), u10, none] (E3.set m (O.lst ((rowL r).set k (.int (nv (fieldO r k)))))) := by
          rw [e4]
          generalize setRow r (nv (fieldO r k)) k = r2 at *
          generalize E3.set m (O.lst (rowL r2)) = E4 at *
          subst hr2
          unfold zMakeF
          walk_at "zz"
          simp only [em4]
          unfold rowL
          walk_at "zz"
          have no1 : sameB r2 r = false := same_ne ner
          have no2 : sameB r r2 = false := same_ne (Ne.symm ner)
          have out : ∀ u : Option D, Ze2.nx [some (.cell n), some (rowD r), some (boxD r), u3, u4, u5, some (boxD r), some (boxD r), some (.int (k : Int)), some (.cell m), u, none] E4 := fun u => hn2 _ _ ⟨⟨_, _, _, rfl⟩, hb4⟩
          refine ⟨fun hn0 => ?_, fun hn0 => ?_⟩
          · refine init_ok (okr fun i hi => by rw [hi] at hn0; cases hn0) ?_
            refine ⟨rfl, rowL r2, by rw [F.f.nms], by rw [F.f.nms]; rfl, below_row, eqA_box F (r := r2) (r2 := r) ?_⟩
            rw [no1]
            refine ⟨false, rfl, (fun q => nomatch q), fun _ => eqA_box F (r := r) (r2 := r2) ?_⟩
            rw [no2]
            exact ⟨false, rfl, (fun q => nomatch q), fun _ => out _⟩
          · obtain ⟨i, e⟩ : ∃ i, r2.m = some i := by
              cases e : r2.m with
              | none => rw [e] at hn0; cases hn0
              | some i => exact ⟨i, rfl⟩
            refine ⟨i, by rw [e]; rfl, fun hle => ?_, fun _ => out _⟩
            refine init_ok (okr fun j hj => by rw [e] at hj; cases hj; exact hle) ?_
            refine ⟨rfl, rowL r2, by rw [F.f.nms], by rw [F.f.nms]; rfl, below_row, eqA_box F (r := r2) (r2 := r) ?_⟩
            rw [no1]
            refine ⟨false, rfl, (fun q => nomatch q), fun _ => eqA_box F (r := r) (r2 := r2) ?_⟩
            rw [no2]
            exact ⟨false, rfl, (fun q => nomatch q), fun _ => out _⟩
        unfold rowD
        walk_at "zz"
        simp only [ek, em]
        walk_at "zz"
        generalize fieldO r k = v at *
        cases v with
        | none => exact ⟨fun _ => .inl ⟨rfl, rfl, .inr ⟨false, rfl, .int 1, at0, rowL r, em, k, ix_field hk, fin⟩⟩, fun q => by cases q⟩
        | some i =>
          refine ⟨(fun q => by cases q), fun _ => ⟨⟨by decide, by decide, by decide⟩, i, rfl, fun hlt => ?_, fun hge => ?_⟩⟩
          · have hlt' : i < 10 ^ 6 := hlt
            refine .inl ⟨rfl, rfl, .inr ⟨i == 1, rfl, ?_⟩⟩
            by_cases h1 : i = 1
            · subst h1
              exact ⟨.int 0, at1, rowL r, em, k, ix_field hk, fin⟩
            · have e1 : (i == 1) = false := by simpa using h1
              have e2 : nv (some i) = 1 := by
                show (if i < 10 ^ 6 then (if i = 1 then 0 else 1) else i - 1) = 1
                rw [if_pos hlt', if_neg h1]
              rw [e2] at fin
              rw [e1]
              exact ⟨.int 1, at0, rowL r, em, k, ix_field hk, fin⟩
          · have hge' : ¬ i < 10 ^ 6 := hge
            have e2 : nv (some i) = i - 1 := by
              show (if i < 10 ^ 6 then (if i = 1 then 0 else 1) else i - 1) = i - 1
              rw [if_neg hge']
            rw [e2] at fin
            exact ⟨i, rfl, k, ix_field hk, fin⟩
      · obtain ⟨⟨u8, u9, u10, rfl⟩, hb2⟩ := hI
        show rest _ _
        subst hrs
        walk_at "zz"
        unfold zList
        walk_at "zz"
        unfold rowD
        walk_at "zz"
        refine comp_no _ (fun x hx Q q => ?_) (.inl ⟨rfl, rfl, h E hb2⟩)
        simp only [List.mem_cons, List.not_mem_nil, or_false] at hx
        rcases hx with rfl | rfl | rfl | rfl | rfl | rfl
        all_goals walk_at "zz"
        · exact eqA_no F (n := "NoneType") (by decide) rfl ⟨false, rfl, q _⟩
        · exact eqA_no F (n := "tuple") (by decide) rfl ⟨false, rfl, q _⟩
        · exact eqA_no F (n := "list") (by decide) rfl ⟨false, rfl, q _⟩
        · exact eqA_no F (n := "int") (by decide) rfl ⟨false, rfl, q _⟩
        · exact eqA_no F (n := "str") (by decide) rfl ⟨false, rfl, q _⟩
        · exact eqA_no F (n := "list") (by decide) rfl ⟨false, rfl, q _⟩
    refine ⟨1, rfl, ?_⟩
    show ¬(HT.sIx 5 0 (some 1) = 0 ∧ HT.sIx 5 5 none = 5) ∧ zEqA C 0 (W_Box_d_eq_d K C) (D.tup [optD (some r.l), optD r.m, D.int r.g, D.int r.s]) (D.tup [D.int 0, D.non, D.int 0, D.int 0]) E _
    refine ⟨by decide, .inl ⟨?_, rfl, _, rfl, fun q => ?_, fun q => go⟩⟩
    · obtain ⟨w, l, m, g, s⟩ := r
      cases m <;> rfl
    · have hz : r.l = 0 ∧ r.m = none ∧ r.g = 0 ∧ r.s = 0 := by
        obtain ⟨w, l, m, g, s⟩ := r
        cases m with
        | none =>
          have q' : ((l == 0) && (true && ((g == 0) && ((s == 0) && true)))) = true := q
          simpa using q'
        | some i =>
          have q' : ((l == 0) && (false && ((g == 0) && ((s == 0) && true)))) = true := q
          simp at q'
      obtain ⟨h1, h2, h3, h4⟩ := hz
      have e5 : [D.cell E.length, D.int r.w, D.int 0, D.non, D.int 0, D.int 0] = .cell E.length :: rowL r := by unfold rowL; rw [h1, h2, h3, h4]; rfl
      rw [e5]
      refine init_ok hr ?_
      exact ⟨rfl, rowL r, by rw [F.f.nms], by rw [F.f.nms]; rfl, below_row, yes ⟨true, rfl, (fun q => nomatch q), fun _ => go⟩⟩
end
end Bx

namespace Bx
open PySem PySem.Spec PyProof.Rows L2 Z
local macro_rules | `(tactic| walk_at "zz") => `(tactic| simp only [zSeq, zAsg, zRet, zRetN, zIfS, zNext, zDrop, zPar, zVar, zC, zOp, zUn, zNeg, zI0, zI, zTest, zAnd, zOr, zNot, zAndV, zOrV, zNotV, zIf, zNil, zCons, zTup, zLst, zLstC, zgName, zgTup, zgCons, zgNil, zgSub, startZ, zCall, zCB, zChain, zIsN, zNotN, zNever,
  zAddA, zMulA, zRepeat, zCat, zIx, seqD, lstD, zMax2, zMin2, zAbs, zLen, zSum, zGcd, zInt, zYes, zBreak, zCont, zLc, ziR1, ziR2, ziList, ziTup, ziZip, ziEnum, wipeZ, zFor,
  at0, at1, at2, at3, at4, ix2_3, ix0_3, isNon_int, isNon_non, Bool.not_true, Bool.not_false,
  List.map_cons, List.map_nil, List.length_cons, List.length_nil, List.replicate_succ, List.replicate_zero, List.append_nil, List.nil_append, List.cons_append, List.getElem?_cons_zero, List.getElem?_cons_succ, List.set_cons_zero, List.set_cons_succ,
  Option.some.injEq, D.int.injEq, D.bl.injEq, D.tup.injEq, D.lst.injEq, D.str.injEq, D.cell.injEq, O.lst.injEq, reduceCtorEq, exists_eq_left', exists_eq_left, false_and, and_false, true_and, and_true, exists_false, or_false, false_or, exists_and_left, exists_eq', exists_and_right, List.cons.injEq, and_assoc, dec_not, dec_yes, t_t, t_f, f_t, f_f, true_implies, false_implies, implies_true, and_self, Nat.reduceAdd, Nat.reduceLeDiff, Nat.reduceSub, Nat.reduceLT])
local macro_rules | `(tactic| walk_at "zy") => `(tactic| try simp only [Option.some.injEq, D.int.injEq, D.bl.injEq, D.tup.injEq, D.lst.injEq, D.str.injEq, D.cell.injEq, O.lst.injEq, reduceCtorEq, exists_eq_left', exists_eq_left, false_and, and_false, true_and, and_true, exists_false, or_false, false_or, exists_and_left, exists_eq', exists_and_right, List.cons.injEq, and_assoc, dec_not, dec_yes, t_t, t_f, f_t, f_f, true_implies, false_implies, implies_true, and_self])
/-! ### the law -/
section
variable {K : PySem.W.Frag} {C : CI} {Δ : Store}
theorem items_int {ns : List Int} {x : D} (h : x ∈ Z.cutD (ns.map D.int) none (some 14) ++ [D.int 0]) : ∃ c : Int, x = .int c := by
  rcases List.mem_append.mp h with h | h
  · unfold Z.cutD at h
    have h := List.mem_of_mem_drop (List.mem_of_mem_take h)
    obtain ⟨c, _, rfl⟩ := List.mem_map.mp h
    exact ⟨c, rfl⟩
  · rw [List.mem_singleton] at h
    exact ⟨0, h⟩
theorem cut_len {ns : List Int} (h : ns.length ≤ 63) : (Z.cutD (ns.map D.int) none (some 14)).length ≤ 63 := by
  unfold Z.cutD
  rw [List.length_take, List.length_drop, List.length_map]
  omega
def great : Row := ⟨10 ^ 30, 10 ^ 30, some (10 ^ 30), 10 ^ 6, 10 ^ 6⟩
def three : Row := ⟨3, 0, none, 0, 0⟩
theorem great_ok : great.Ok := ⟨by decide, by decide, by decide, by decide, fun i hi => by cases hi; decide, by decide, by decide, by decide, by decide⟩
theorem three_ok : three.Ok := ⟨by decide, by decide, by decide, by decide, (fun i hi => by cases hi), by decide, by decide, by decide, by decide⟩
def far : Rat := ⟨10 ^ 40, 7, by decide, by decide +kernel⟩
theorem siz_far : siz great (10 ^ 40) 7 = ((10 ^ 30 : Int) : Rat) := by
  unfold siz
  rw [show scI great (10 ^ 40) 7 = 10 ^ 30 * 7 from by decide +kernel]
  exact divInt_int (by decide)
theorem law_ok (F : Kn K C) {ns : List Int} (hl : ns.length ≤ 63) : W_law K C [.scr ns] [] fun d _ => d = .bl true := by
  have cl := cut_len hl
  unfold W_law z_law
  refine ⟨rfl, ?_⟩
  refine seq_cut fun rest hr => ?_
  refine ⟨_, rfl, _, rfl, ?_⟩
  refine ⟨_, .inr (.inr ⟨ns, rfl, rfl⟩), ?_⟩
  refine ⟨by decide, _, _, rfl, rfl, ?_, .inl ⟨_, rfl, ?_⟩⟩
  · show _ + 1 ≤ 100000
    omega
  refine loop_all (I := fun Γ _ => ∃ u1 u2 u3, Γ = [some (.scr ns), u1, u2, u3, none]) ⟨_, _, _, rfl⟩ (fun x Γ Δ Ze' hx hI hn _ _ _ => ?_) (fun Γ Δ hI => ?_)
  · obtain ⟨c, rfl⟩ := items_int hx
    obtain ⟨u1, u2, u3, rfl⟩ := hI
    simp only [zgName, List.set_cons_succ, List.set_cons_zero]
    refine seq_cut fun rest2 hr2 => ?_
    walk_at "zz"
    refine bag_ok fun Δ1 e1 hb1 => ?_
    generalize Δ.length = n at *
    subst hr2
    walk_at "zz"
    refine rows_ok hb1 (by decide) (by decide) fun rows Δ3 hne hlen hr3 hb3 _ => .inl ⟨_, rfl, ?_⟩
    refine loop_all (I := fun Γ E => (∃ u3, Γ = [some (.scr ns), some (.int c), some (.cell n), u3, none]) ∧ BagAt E n) ⟨⟨_, rfl⟩, hb3⟩ (fun y Γ E Ze2 hy hI hn2 _ _ _ => ?_) (fun Γ E hI => ?_)
    · obtain ⟨⟨u3', rfl⟩, hb4⟩ := hI
      obtain ⟨r, hr', rfl⟩ := List.mem_map.mp hy
      walk_at "zz"
      refine right_ok F (hr3 r hr') hb4 fun E' hb5 => ⟨true, rfl, (fun q => by cases q), fun _ => hn2 _ _ ⟨⟨_, rfl⟩, hb5⟩⟩
    · obtain ⟨⟨u3', rfl⟩, hb4⟩ := hI
      exact hn _ _ ⟨_, _, _, rfl⟩
  · obtain ⟨u1, u2, u3, rfl⟩ := hI
    show rest _ _
    subst hr
    refine seq_cut fun rest hr => ?_
    unfold zMakeF
    walk_at "zz"
    have c30 : CPow 10 30 := ⟨by decide, by decide, by decide⟩
    have c6 : CPow 10 6 := ⟨by decide, by decide, by decide⟩
    refine ⟨c30, c30, c30, c6, c6, ?_⟩
    have e30 : (10 : Int) ^ Int.toNat 30 = 10 ^ 30 := rfl
    have e6 : (10 : Int) ^ Int.toNat 6 = 10 ^ 6 := rfl
    rw [e30, e6]
    refine init_ok (r := great) great_ok ?_
    refine ⟨rfl, rowL great, by rw [F.f.nms], by rw [F.f.nms]; rfl, below_row, ?_⟩
    show rest [some (.scr ns), u1, u2, u3, some (boxD great)] Δ
    subst hr
    unfold zProp zMakeF zCallO
    walk_at "zz"
    refine init_ok (r := three) three_ok ?_
    refine ⟨rfl, rowL three, by rw [F.f.nms], by rw [F.f.nms]; rfl, below_row, ins_box, most_ok F.f (r := three) ?_⟩
    refine ⟨fun _ => ⟨ins_box, ⟨by decide, by decide, by decide⟩, ins_box, ?_⟩, fun q => by cases q⟩
    have e40 : (10 : Int) ^ Int.toNat 40 = 10 ^ 40 := rfl
    rw [e40, e30]
    refine callQ_ok F.f (r := great) (x := far) great_ok (by decide) ?_
    refine ⟨c30, ?_⟩
    rw [show far.num = 10 ^ 40 from rfl, show (far.den : Int) = 7 from rfl, siz_far]
    show zEq (.tup [.int (10 ^ 30), .int 1]) (.tup [.int (10 ^ 30), .int 1]) Δ _
    refine ⟨rfl, rfl, ?_⟩
    show D.bl (PyData.eqv (pd (.tup [.int (10 ^ 30), .int 1])) (pd (.tup [.int (10 ^ 30), .int 1]))) = D.bl true
    rw [SeqAt.eqv_refl _ rfl]
end
end Bx

namespace Bx
open PySem PySem.Spec PyProof.Rows L2 Z
/-! ### what the top has written -/
structure Ad where
  f__law_bag : Addr
  d__law_bag : FuncData
  f__law_pick : Addr
  d__law_pick : FuncData
  f__law_numbers : Addr
  d__law_numbers : FuncData
  f__law_rows : Addr
  d__law_rows : FuncData
  f_is_int : Addr
  d_is_int : FuncData
  f_in_bounds : Addr
  d_in_bounds : FuncData
  f_are_box_numbers : Addr
  d_are_box_numbers : FuncData
  f_Box_d_init_d : Addr
  d_Box_d_init_d : FuncData
  f_Box_wish : Addr
  d_Box_wish : FuncData
  f_Box_least : Addr
  d_Box_least : FuncData
  f_Box_most : Addr
  d_Box_most : FuncData
  f_Box_grow : Addr
  d_Box_grow : FuncData
  f_Box_shrink : Addr
  d_Box_shrink : FuncData
  f_limited : Addr
  d_limited : FuncData
  f_Box_own : Addr
  d_Box_own : FuncData
  f__law_order : Addr
  d__law_order : FuncData
  f__law_limited : Addr
  d__law_limited : FuncData
  f__law_own : Addr
  d__law_own : FuncData
  f__law_ratio : Addr
  d__law_ratio : FuncData
  f__law_level_list : Addr
  d__law_level_list : FuncData
  f_is_fraction : Addr
  d_is_fraction : FuncData
  f_is_rational : Addr
  d_is_rational : FuncData
  f_lowest : Addr
  d_lowest : FuncData
  f_weight_at : Addr
  d_weight_at : FuncData
  f_scaled_size : Addr
  d_scaled_size : FuncData
  f_size_at : Addr
  d_size_at : FuncData
  f_as_fraction : Addr
  d_as_fraction : FuncData
  f_Box_d_call_d : Addr
  d_Box_d_call_d : FuncData
  f__law_size : Addr
  d__law_size : FuncData
  f_Box_d_eq_d : Addr
  d_Box_d_eq_d : FuncData
  f__law_box_right : Addr
  d__law_box_right : FuncData
  f_law : Addr
  d_law : FuncData
  c_Box : Addr
  p_Box_wish : Addr
  p_Box_least : Addr
  p_Box_most : Addr
  p_Box_grow : Addr
  p_Box_shrink : Addr
  p_Box_own : Addr
def adrOf (q : Ad) : Nat → Addr
  | 0 => q.c_Box
  | _ => 0
abbrev CIof (q : Ad) : CI := ⟨adrOf q, nmsOf⟩
structure Tx (K : PySem.W.Frag) (mg : Str → Option Value) (q : Ad) : Prop where
  F__law_bag : Fun K "_law_bag" "_law_bag" s__law_bag q.f__law_bag q.d__law_bag
  b__law_bag : Binds K q.d__law_bag ["cell"] []
  m__law_bag : mg "_law_bag" = some (.ref q.f__law_bag)
  F__law_pick : Fun K "_law_pick" "_law_pick" s__law_pick q.f__law_pick q.d__law_pick
  b__law_pick : Binds K q.d__law_pick ["bag", "many"] []
  m__law_pick : mg "_law_pick" = some (.ref q.f__law_pick)
  F__law_numbers : Fun K "_law_numbers" "_law_numbers" s__law_numbers q.f__law_numbers q.d__law_numbers
  b__law_numbers : Binds K q.d__law_numbers ["bag", "wide", "heavy"] []
  m__law_numbers : mg "_law_numbers" = some (.ref q.f__law_numbers)
  F__law_rows : Fun K "_law_rows" "_law_rows" s__law_rows q.f__law_rows q.d__law_rows
  b__law_rows : Binds K q.d__law_rows ["bag", "count"] []
  m__law_rows : mg "_law_rows" = some (.ref q.f__law_rows)
  F_is_int : Fun K "is_int" "is_int" s_is_int q.f_is_int q.d_is_int
  b_is_int : Binds K q.d_is_int ["value"] []
  m_is_int : mg "is_int" = some (.ref q.f_is_int)
  F_in_bounds : Fun K "in_bounds" "in_bounds" s_in_bounds q.f_in_bounds q.d_in_bounds
  b_in_bounds : Binds K q.d_in_bounds ["value", "top"] []
  m_in_bounds : mg "in_bounds" = some (.ref q.f_in_bounds)
  F_are_box_numbers : Fun K "are_box_numbers" "are_box_numbers" s_are_box_numbers q.f_are_box_numbers q.d_are_box_numbers
  b_are_box_numbers : Binds K q.d_are_box_numbers ["wish", "least", "most", "grow", "shrink"] []
  m_are_box_numbers : mg "are_box_numbers" = some (.ref q.f_are_box_numbers)
  F_Box_d_init_d : FunZ K "__init__" "Box.__init__" s_Box_d_init_d q.f_Box_d_init_d q.d_Box_d_init_d
  b_Box_d_init_d : Binds K q.d_Box_d_init_d ["self", "wish", "least", "most", "grow", "shrink"] []
  F_Box_wish : Fun K "wish" "Box.wish" s_Box_wish q.f_Box_wish q.d_Box_wish
  b_Box_wish : Binds K q.d_Box_wish ["self"] []
  F_Box_least : Fun K "least" "Box.least" s_Box_least q.f_Box_least q.d_Box_least
  b_Box_least : Binds K q.d_Box_least ["self"] []
  F_Box_most : Fun K "most" "Box.most" s_Box_most q.f_Box_most q.d_Box_most
  b_Box_most : Binds K q.d_Box_most ["self"] []
  F_Box_grow : Fun K "grow" "Box.grow" s_Box_grow q.f_Box_grow q.d_Box_grow
  b_Box_grow : Binds K q.d_Box_grow ["self"] []
  F_Box_shrink : Fun K "shrink" "Box.shrink" s_Box_shrink q.f_Box_shrink q.d_Box_shrink
  b_Box_shrink : Binds K q.d_Box_shrink ["self"] []
  F_limited : Fun K "limited" "limited" s_limited q.f_limited q.d_limited
  b_limited : Binds K q.d_limited ["value", "least", "most"] []
  m_limited : mg "limited" = some (.ref q.f_limited)
  F_Box_own : Fun K "own" "Box.own" s_Box_own q.f_Box_own q.d_Box_own
  b_Box_own : Binds K q.d_Box_own ["self"] []
  F__law_order : Fun K "_law_order" "_law_order" s__law_order q.f__law_order q.d__law_order
  b__law_order : Binds K q.d__law_order ["one", "two"] []
  m__law_order : mg "_law_order" = some (.ref q.f__law_order)
  F__law_limited : Fun K "_law_limited" "_law_limited" s__law_limited q.f__law_limited q.d__law_limited
  b__law_limited : Binds K q.d__law_limited ["number", "row"] []
  m__law_limited : mg "_law_limited" = some (.ref q.f__law_limited)
  F__law_own : Fun K "_law_own" "_law_own" s__law_own q.f__law_own q.d__law_own
  b__law_own : Binds K q.d__law_own ["row"] []
  m__law_own : mg "_law_own" = some (.ref q.f__law_own)
  F__law_ratio : Fun K "_law_ratio" "_law_ratio" s__law_ratio q.f__law_ratio q.d__law_ratio
  b__law_ratio : Binds K q.d__law_ratio ["above", "below"] []
  m__law_ratio : mg "_law_ratio" = some (.ref q.f__law_ratio)
  F__law_level_list : Fun K "_law_level_list" "_law_level_list" s__law_level_list q.f__law_level_list q.d__law_level_list
  b__law_level_list : Binds K q.d__law_level_list ["bag", "row"] []
  m__law_level_list : mg "_law_level_list" = some (.ref q.f__law_level_list)
  F_is_fraction : Fun K "is_fraction" "is_fraction" s_is_fraction q.f_is_fraction q.d_is_fraction
  b_is_fraction : Binds K q.d_is_fraction ["value"] []
  m_is_fraction : mg "is_fraction" = some (.ref q.f_is_fraction)
  F_is_rational : Fun K "is_rational" "is_rational" s_is_rational q.f_is_rational q.d_is_rational
  b_is_rational : Binds K q.d_is_rational ["value"] []
  m_is_rational : mg "is_rational" = some (.ref q.f_is_rational)
  F_lowest : Fun K "lowest" "lowest" s_lowest q.f_lowest q.d_lowest
  b_lowest : Binds K q.d_lowest ["p", "q"] []
  m_lowest : mg "lowest" = some (.ref q.f_lowest)
  F_weight_at : Fun K "weight_at" "weight_at" s_weight_at q.f_weight_at q.d_weight_at
  b_weight_at : Binds K q.d_weight_at ["box", "level"] []
  m_weight_at : mg "weight_at" = some (.ref q.f_weight_at)
  F_scaled_size : Fun K "scaled_size" "scaled_size" s_scaled_size q.f_scaled_size q.d_scaled_size
  b_scaled_size : Binds K q.d_scaled_size ["box", "level"] []
  m_scaled_size : mg "scaled_size" = some (.ref q.f_scaled_size)
  F_size_at : Fun K "size_at" "size_at" s_size_at q.f_size_at q.d_size_at
  b_size_at : Binds K q.d_size_at ["box", "level"] []
  m_size_at : mg "size_at" = some (.ref q.f_size_at)
  F_as_fraction : Fun K "as_fraction" "as_fraction" s_as_fraction q.f_as_fraction q.d_as_fraction
  b_as_fraction : Binds K q.d_as_fraction ["value"] []
  m_as_fraction : mg "as_fraction" = some (.ref q.f_as_fraction)
  F_Box_d_call_d : Fun K "__call__" "Box.__call__" s_Box_d_call_d q.f_Box_d_call_d q.d_Box_d_call_d
  b_Box_d_call_d : Binds K q.d_Box_d_call_d ["self", "level"] []
  F__law_size : Fun K "_law_size" "_law_size" s__law_size q.f__law_size q.d__law_size
  b__law_size : Binds K q.d__law_size ["row", "level"] []
  m__law_size : mg "_law_size" = some (.ref q.f__law_size)
  F_Box_d_eq_d : Fun K "__eq__" "Box.__eq__" s_Box_d_eq_d q.f_Box_d_eq_d q.d_Box_d_eq_d
  b_Box_d_eq_d : Binds K q.d_Box_d_eq_d ["self", "other"] []
  F__law_box_right : Fun K "_law_box_right" "_law_box_right" s__law_box_right q.f__law_box_right q.d__law_box_right
  b__law_box_right : Binds K q.d__law_box_right ["bag", "row"] []
  m__law_box_right : mg "_law_box_right" = some (.ref q.f__law_box_right)
  F_law : Fun K "law" "law" s_law q.f_law q.d_law
  b_law : Binds K q.d_law ["script"] []
  m_law : mg "law" = some (.ref q.f_law)
  b4_Box_d_init_d : ∃ ts : List Value, Vals [V.int 0, V.non, V.int 0, V.int 0] ts ∧ Binds K q.d_Box_d_init_d ["self", "wish", "least", "most", "grow", "shrink"] ts
  kb0_shrink_grow_most_least_wish_Box_d_init_d : ∃ its : List Value, KBn K q.d_Box_d_init_d ["self", "wish", "least", "most", "grow", "shrink"] (0 + 1) ["shrink", "grow", "most", "least", "wish"] (fun us ws => us ++ Z.picked its ws [.k 4, .k 3, .k 2, .k 1, .k 0]) (fun vs zs => vs ++ Z.picked [V.int 0, V.non, V.int 0, V.int 0] zs [.k 4, .k 3, .k 2, .k 1, .k 0])
  kb2_most_grow_shrink_Box_d_init_d : ∃ its : List Value, KBn K q.d_Box_d_init_d ["self", "wish", "least", "most", "grow", "shrink"] (2 + 1) ["most", "grow", "shrink"] (fun us ws => us ++ Z.picked its ws [.k 0, .k 1, .k 2]) (fun vs zs => vs ++ Z.picked [V.int 0, V.non, V.int 0, V.int 0] zs [.k 0, .k 1, .k 2])
  m_Box : mg "Box" = some (.ref q.c_Box)
  cl_Box : Cls K q.c_Box
  no_Box__wish : NoAttr K q.c_Box "_wish"
  no_Box__least : NoAttr K q.c_Box "_least"
  no_Box__most : NoAttr K q.c_Box "_most"
  no_Box__grow : NoAttr K q.c_Box "_grow"
  no_Box__shrink : NoAttr K q.c_Box "_shrink"
  mk_Box : Mk K q.c_Box q.f_Box_d_init_d
  pr_Box_wish : PropOf K q.c_Box "wish" q.p_Box_wish q.f_Box_wish
  pr_Box_least : PropOf K q.c_Box "least" q.p_Box_least q.f_Box_least
  pr_Box_most : PropOf K q.c_Box "most" q.p_Box_most q.f_Box_most
  pr_Box_grow : PropOf K q.c_Box "grow" q.p_Box_grow q.f_Box_grow
  pr_Box_shrink : PropOf K q.c_Box "shrink" q.p_Box_shrink q.f_Box_shrink
  pr_Box_own : PropOf K q.c_Box "own" q.p_Box_own q.f_Box_own
  co_Box : StX.CallO K q.c_Box q.f_Box_d_call_d
  eq_Box : EqO K q.c_Box q.f_Box_d_eq_d
  ni_Box : ∀ n ∈ plainTys, PySem.W.kitOne K (.type n) (.ref q.c_Box) = some false
  is_Box : Isi K q.c_Box
  c_HEAVIEST : ∃ t, mg "HEAVIEST" = some (.int 1000000 t)
  c_WIDEST : ∃ t, mg "WIDEST" = some (.int 1000000000000000000000000000000 t)
  n_abs : mg "abs" = none
  n_all : mg "all" = none
  n_bool : mg "bool" = none
  g_gcd : mg "gcd" = some (.builtin "math.gcd")
  n_int : mg "int" = none
  n_isinstance : mg "isinstance" = none
  n_len : mg "len" = none
  n_list : mg "list" = none
  n_max : mg "max" = none
  n_min : mg "min" = none
  n_range : mg "range" = none
  n_repr : mg "repr" = none
  n_tuple : mg "tuple" = none
section
variable {P : Program} {w : World} {K : PySem.W.Frag} {mg : Str → Option Value} {base : Heap} {q : Ad}
theorem ok__law_bag (T : Tx K mg q) : FnOk P w K mg base CX0 1 q.f__law_bag q.d__law_bag ["cell"] (SpZ K (CIof q) (W__law_bag K (CIof q))) :=
  fnz_ok T.F__law_bag sc__law_bag (fun _ _ _ h => h.1) fun cdv A outer s H E hr => ⟨z__law_bag K (CIof q),
    szs_one (sz_ret (ez_lstC (az_cons (ez_callB (cz_max2 rfl) T.n_max (by decide +kernel) (az_cons (ez_int) (az_cons (ez_op oz_sub (ez_var 0) (ez_op oz_pow (ez_int) (ez_int))) (az_nil)))) (az_cons (ez_var 0) (az_cons (ez_int) (az_nil)))))),
    fun _ _ _ h => h.2⟩
theorem ok__law_pick (T : Tx K mg q) : FnOk P w K mg base CX0 1 q.f__law_pick q.d__law_pick ["bag", "many"] (SpZ K (CIof q) (W__law_pick K (CIof q))) :=
  fnz_ok T.F__law_pick sc__law_pick (fun _ _ _ h => h.1) fun cdv A outer s H E hr => ⟨z__law_pick K (CIof q),
    szs_cons (sz_asgSub (ez_op oz_add (ez_ix (ez_var 0) (ez_int)) (ez_int)) (gz_sub (ez_var 0) (ez_int)))
    (szs_cons (sz_if (tz_cmp oz_gt (ez_ix (ez_var 0) (ez_int)) (ez_int)) (szs_cons (sz_set (i := 2) sc__law_pick.nd (ez_op oz_mod (ez_ix (ez_var 0) (ez_int)) (ez_var 1)))
    (szs_cons (sz_asgSub (ez_op oz_fdiv (ez_ix (ez_var 0) (ez_int)) (ez_var 1)) (gz_sub (ez_var 0) (ez_int)))
    (szs_one (sz_ret (ez_var 2))))) (szs_nil))
    (szs_cons (sz_set (i := 3) sc__law_pick.nd (ez_op oz_mod (ez_op oz_add (ez_op oz_add (ez_op oz_mul (ez_op oz_mod (ez_ix (ez_var 0) (ez_int)) (ez_int)) (ez_int)) (ez_op oz_mul (ez_ix (ez_var 0) (ez_int)) (ez_int))) (ez_int)) (ez_int)))
    (szs_cons (sz_set (i := 4) sc__law_pick.nd (ez_op oz_mod (ez_op oz_add (ez_op oz_mul (ez_var 3) (ez_var 3)) (ez_op oz_mul (ez_ix (ez_var 0) (ez_int)) (ez_int))) (ez_int)))
    (szs_one (sz_ret (ez_op oz_mod (ez_op oz_fdiv (ez_op oz_add (ez_op oz_mul (ez_var 3) (ez_int)) (ez_var 4)) (ez_int)) (ez_var 1))))))),
    fun _ _ _ h => h.2⟩
theorem ok__law_numbers (T : Tx K mg q) : FnOk P w K mg base CX0 2 q.f__law_numbers q.d__law_numbers ["bag", "wide", "heavy"] (SpZ K (CIof q) (W__law_numbers K (CIof q))) :=
  fnz_ok T.F__law_numbers sc__law_numbers (fun _ _ _ h => h.1) fun cdv A outer s H E hr => ⟨z__law_numbers K (CIof q),
    szs_cons (sz_set (i := 3) sc__law_numbers.nd (ez_ix (ez_lst (az_cons (ez_int) (az_cons (ez_calln (ok__law_pick T) (hr.mono (by decide)) T.m__law_pick T.F__law_pick.kp T.b__law_pick (az_cons (ez_var 0) (az_cons (ez_var 1) (az_nil)))) (az_cons (ez_calln (ok__law_pick T) (hr.mono (by decide)) T.m__law_pick T.F__law_pick.kp T.b__law_pick (az_cons (ez_var 0) (az_cons (ez_var 1) (az_nil)))) (az_nil))))) (ez_calln (ok__law_pick T) (hr.mono (by decide)) T.m__law_pick T.F__law_pick.kp T.b__law_pick (az_cons (ez_var 0) (az_cons (ez_int) (az_nil))))))
    (szs_cons (sz_set (i := 4) sc__law_numbers.nd (ez_ix (ez_lst (az_cons (ez_non) (az_cons (ez_var 3) (az_cons (ez_op oz_add (ez_var 3) (ez_calln (ok__law_pick T) (hr.mono (by decide)) T.m__law_pick T.F__law_pick.kp T.b__law_pick (az_cons (ez_var 0) (az_cons (ez_var 1) (az_nil))))) (az_cons (ez_op oz_add (ez_var 3) (ez_calln (ok__law_pick T) (hr.mono (by decide)) T.m__law_pick T.F__law_pick.kp T.b__law_pick (az_cons (ez_var 0) (az_cons (ez_int) (az_nil))))) (az_cons (ez_non) (az_nil))))))) (ez_calln (ok__law_pick T) (hr.mono (by decide)) T.m__law_pick T.F__law_pick.kp T.b__law_pick (az_cons (ez_var 0) (az_cons (ez_int) (az_nil))))))
    (szs_cons (sz_set (i := 5) sc__law_numbers.nd (ez_ix (ez_lst (az_cons (ez_calln (ok__law_pick T) (hr.mono (by decide)) T.m__law_pick T.F__law_pick.kp T.b__law_pick (az_cons (ez_var 0) (az_cons (ez_var 1) (az_nil)))) (az_cons (ez_int) (az_cons (ez_var 3) (az_cons (ez_op oz_add (ez_var 3) (ez_calln (ok__law_pick T) (hr.mono (by decide)) T.m__law_pick T.F__law_pick.kp T.b__law_pick (az_cons (ez_var 0) (az_cons (ez_var 1) (az_nil))))) (az_cons (ez_calln (ok__law_pick T) (hr.mono (by decide)) T.m__law_pick T.F__law_pick.kp T.b__law_pick (az_cons (ez_var 0) (az_cons (ez_op oz_mul (ez_int) (ez_var 1)) (az_nil)))) (az_nil))))))) (ez_calln (ok__law_pick T) (hr.mono (by decide)) T.m__law_pick T.F__law_pick.kp T.b__law_pick (az_cons (ez_var 0) (az_cons (ez_int) (az_nil))))))
    (szs_cons (sz_set (i := 6) sc__law_numbers.nd (ez_lst (az_cons (ez_int) (az_cons (ez_int) (az_cons (ez_calln (ok__law_pick T) (hr.mono (by decide)) T.m__law_pick T.F__law_pick.kp T.b__law_pick (az_cons (ez_var 0) (az_cons (ez_int) (az_nil)))) (az_cons (ez_calln (ok__law_pick T) (hr.mono (by decide)) T.m__law_pick T.F__law_pick.kp T.b__law_pick (az_cons (ez_var 0) (az_cons (ez_op oz_add (ez_var 2) (ez_int)) (az_nil)))) (az_cons (ez_var 2) (az_nil))))))))
    (szs_cons (sz_par (i := 7) (j := 8) sc__law_numbers.nd rfl rfl (by decide) rfl rfl (az_cons (ez_ix (ez_var 6) (ez_calln (ok__law_pick T) (hr.mono (by decide)) T.m__law_pick T.F__law_pick.kp T.b__law_pick (az_cons (ez_var 0) (az_cons (ez_int) (az_nil))))) (az_cons (ez_ix (ez_var 6) (ez_calln (ok__law_pick T) (hr.mono (by decide)) T.m__law_pick T.F__law_pick.kp T.b__law_pick (az_cons (ez_var 0) (az_cons (ez_int) (az_nil))))) (az_nil))))
    (szs_cons (sz_set (i := 9) sc__law_numbers.nd (ez_op oz_pow (ez_int) (ez_int)))
    (szs_one (sz_ret (ez_tup (az_cons (ez_callB (cz_min2 rfl) T.n_min (by decide +kernel) (az_cons (ez_var 5) (az_cons (ez_var 9) (az_nil)))) (az_cons (ez_callB (cz_min2 rfl) T.n_min (by decide +kernel) (az_cons (ez_var 3) (az_cons (ez_var 9) (az_nil)))) (az_cons (ez_if (tz_cmp oz_isN (ez_var 4) (ez_non)) (ez_non) (ez_callB (cz_min2 rfl) T.n_min (by decide +kernel) (az_cons (ez_var 4) (az_cons (ez_var 9) (az_nil))))) (az_cons (ez_var 7) (az_cons (ez_var 8) (az_nil)))))))))))))),
    fun _ _ _ h => h.2⟩
theorem ok__law_rows (T : Tx K mg q) : FnOk P w K mg base CX0 3 q.f__law_rows q.d__law_rows ["bag", "count"] (SpZ K (CIof q) (W__law_rows K (CIof q))) :=
  fnz_ok T.F__law_rows sc__law_rows (fun _ _ _ h => h.1) fun cdv A outer s H E hr => ⟨z__law_rows K (CIof q),
    szs_cons (sz_set (i := 2) sc__law_rows.nd (ez_ix (ez_lst (az_cons (ez_int) (az_cons (ez_int) (az_cons (ez_int) (az_cons (ez_op oz_pow (ez_int) (ez_int)) (az_nil)))))) (ez_calln (ok__law_pick T) (hr.mono (by decide)) T.m__law_pick T.F__law_pick.kp T.b__law_pick (az_cons (ez_var 0) (az_cons (ez_int) (az_nil))))))
    (szs_cons (sz_set (i := 3) sc__law_rows.nd (ez_ix (ez_lst (az_cons (ez_int) (az_cons (ez_int) (az_cons (ez_op oz_pow (ez_int) (ez_int)) (az_nil))))) (ez_calln (ok__law_pick T) (hr.mono (by decide)) T.m__law_pick T.F__law_pick.kp T.b__law_pick (az_cons (ez_var 0) (az_cons (ez_int) (az_nil))))))
    (szs_one (sz_ret (ez_lc (own := [("k", 4)]) sc__law_rows.nd (iz_r1 (az_cons (ez_op oz_add (ez_int) (ez_calln (ok__law_pick T) (hr.mono (by decide)) T.m__law_pick T.F__law_pick.kp T.b__law_pick (az_cons (ez_var 0) (az_cons (ez_var 1) (az_nil))))) (az_nil)) T.n_range) (blkOk_by (N := N__law_rows) (sc := defScope s__law_rows) (by decide +kernel)) (own_name (i := 4) (by decide)) (blkz (ref_gName) (fun _ _ _ _ _ => pg_name (i := 4) sc__law_rows.nd rfl (.inl rfl)) (fun _ _ _ _ _ => tsz_nil) (fun _ _ _ _ _ => ez_calln (ok__law_numbers T) (hr.mono (by decide)) T.m__law_numbers T.F__law_numbers.kp T.b__law_numbers (az_cons (ez_var 0) (az_cons (ez_var 2) (az_cons (ez_var 3) (az_nil)))))))))),
    fun _ _ _ h => h.2⟩
theorem ok_is_int (T : Tx K mg q) : FnOk P w K mg base CX0 1 q.f_is_int q.d_is_int ["value"] (SpZ K (CIof q) (W_is_int K (CIof q))) :=
  fnz_ok T.F_is_int sc_is_int (fun _ _ _ h => h.1) fun cdv A outer s H E hr => ⟨z_is_int K (CIof q),
    szs_one (sz_ret (ez_and (ez_callB cz_isi T.n_isinstance (by decide +kernel) (az_cons (ez_var 0) (az_cons (ez_ty T.n_int PyProof.Rows.boot_int) (az_nil)))) (ez_one (ez_not (ez_callB cz_isi T.n_isinstance (by decide +kernel) (az_cons (ez_var 0) (az_cons (ez_ty T.n_bool PyProof.Rows.boot_bool) (az_nil)))))))),
    fun _ _ _ h => h.2⟩
theorem ok_in_bounds (T : Tx K mg q) : FnOk P w K mg base CX0 2 q.f_in_bounds q.d_in_bounds ["value", "top"] (SpZ K (CIof q) (W_in_bounds K (CIof q))) :=
  fnz_ok T.F_in_bounds sc_in_bounds (fun _ _ _ h => h.1) fun cdv A outer s H E hr => ⟨z_in_bounds K (CIof q),
    szs_one (sz_ret (ez_and (ez_calln (ok_is_int T) (hr.mono (by decide)) T.m_is_int T.F_is_int.kp T.b_is_int (az_cons (ez_var 0) (az_nil))) (ez_one (ez_chain oz_le oz_le (ez_int) (ez_var 0) (ez_var 1))))),
    fun _ _ _ h => h.2⟩
theorem ok_are_box_numbers (T : Tx K mg q) : FnOk P w K mg base CX0 3 q.f_are_box_numbers q.d_are_box_numbers ["wish", "least", "most", "grow", "shrink"] (SpZ K (CIof q) (W_are_box_numbers K (CIof q))) :=
  fnz_ok T.F_are_box_numbers sc_are_box_numbers (fun _ _ _ h => h.1) fun cdv A outer s H E hr => ⟨z_are_box_numbers K (CIof q),
    szs_cons (sz_set (i := 5) sc_are_box_numbers.nd (ez_if (tz_cmp oz_isN (ez_var 2) (ez_non)) (ez_lst (az_cons (ez_var 0) (az_cons (ez_var 1) (az_nil)))) (ez_lst (az_cons (ez_var 0) (az_cons (ez_var 1) (az_cons (ez_var 2) (az_nil)))))))
    (szs_one (sz_ret (ez_and (ez_callB (cz_all rfl) T.n_all (by decide +kernel) (az_cons (ez_lc (own := [("width", 6)]) sc_are_box_numbers.nd (iz_list (ez_var 5)) (blkOk_by (N := N_are_box_numbers) (sc := defScope s_are_box_numbers) (by decide +kernel)) (own_name (i := 6) (by decide)) (blkz (ref_gName) (fun _ _ _ _ _ => pg_name (i := 6) sc_are_box_numbers.nd rfl (.inl rfl)) (fun _ _ _ _ _ => tsz_nil) (fun _ _ _ _ _ => ez_calln (ok_in_bounds T) (hr.mono (by decide)) T.m_in_bounds T.F_in_bounds.kp T.b_in_bounds (az_cons (ez_var 6) (az_cons (ez_gint (Classical.choose_spec T.c_WIDEST)) (az_nil)))))) (az_nil))) (ez_and (ez_callB (cz_all rfl) T.n_all (by decide +kernel) (az_cons (ez_lc (own := [("weight", 7)]) sc_are_box_numbers.nd (iz_tup (ez_tup (az_cons (ez_var 3) (az_cons (ez_var 4) (az_nil))))) (blkOk_by (N := N_are_box_numbers) (sc := defScope s_are_box_numbers) (by decide +kernel)) (own_name (i := 7) (by decide)) (blkz (ref_gName) (fun _ _ _ _ _ => pg_name (i := 7) sc_are_box_numbers.nd rfl (.inl rfl)) (fun _ _ _ _ _ => tsz_nil) (fun _ _ _ _ _ => ez_calln (ok_in_bounds T) (hr.mono (by decide)) T.m_in_bounds T.F_in_bounds.kp T.b_in_bounds (az_cons (ez_var 7) (az_cons (ez_gint (Classical.choose_spec T.c_HEAVIEST)) (az_nil)))))) (az_nil))) (ez_one (ez_or (ez_cmp oz_isN (ez_var 2) (ez_non)) (ez_one (ez_cmp oz_le (ez_var 1) (ez_var 2))))))))),
    fun _ _ _ h => h.2⟩
theorem ok_Box_d_init_d (T : Tx K mg q) : FnOk P w K mg base CX0 4 q.f_Box_d_init_d q.d_Box_d_init_d ["self", "wish", "least", "most", "grow", "shrink"] (SpZ K (CIof q) (W_Box_d_init_d K (CIof q))) :=
  fnz_okZ T.F_Box_d_init_d sc_Box_d_init_d (fun _ _ _ h => h.1) fun cdv A outer s H E hr => ⟨z_Box_d_init_d K (CIof q),
    szs_cons (sz_if (tz_not (tz_val (ez_calln (ok_are_box_numbers T) (hr.mono (by decide)) T.m_are_box_numbers T.F_are_box_numbers.kp T.b_are_box_numbers (az_cons (ez_var 1) (az_cons (ez_var 2) (az_cons (ez_var 3) (az_cons (ez_var 4) (az_cons (ez_var 5) (az_nil))))))))) (szs_one (sz_never)) (szs_nil))
    (szs_cons (sz_setF (c := 0) (ez_var 0) (ez_var 1) T.cl_Box T.no_Box__wish)
    (szs_cons (sz_setF (c := 0) (ez_var 0) (ez_var 2) T.cl_Box T.no_Box__least)
    (szs_cons (sz_setF (c := 0) (ez_var 0) (ez_var 3) T.cl_Box T.no_Box__most)
    (szs_cons (sz_setF (c := 0) (ez_var 0) (ez_var 4) T.cl_Box T.no_Box__grow)
    (szs_one (sz_setF (c := 0) (ez_var 0) (ez_var 5) T.cl_Box T.no_Box__shrink)))))),
    fun _ _ _ h => h.2⟩
theorem ok_Box_wish (T : Tx K mg q) : FnOk P w K mg base CX0 1 q.f_Box_wish q.d_Box_wish ["self"] (SpZ K (CIof q) (W_Box_wish K (CIof q))) :=
  fnz_ok T.F_Box_wish sc_Box_wish (fun _ _ _ h => h.1) fun cdv A outer s H E hr => ⟨z_Box_wish K (CIof q),
    szs_one (sz_ret (ez_fld (c := 0) (ez_var 0) T.cl_Box T.no_Box__wish)),
    fun _ _ _ h => h.2⟩
theorem ok_Box_least (T : Tx K mg q) : FnOk P w K mg base CX0 1 q.f_Box_least q.d_Box_least ["self"] (SpZ K (CIof q) (W_Box_least K (CIof q))) :=
  fnz_ok T.F_Box_least sc_Box_least (fun _ _ _ h => h.1) fun cdv A outer s H E hr => ⟨z_Box_least K (CIof q),
    szs_one (sz_ret (ez_fld (c := 0) (ez_var 0) T.cl_Box T.no_Box__least)),
    fun _ _ _ h => h.2⟩
theorem ok_Box_most (T : Tx K mg q) : FnOk P w K mg base CX0 1 q.f_Box_most q.d_Box_most ["self"] (SpZ K (CIof q) (W_Box_most K (CIof q))) :=
  fnz_ok T.F_Box_most sc_Box_most (fun _ _ _ h => h.1) fun cdv A outer s H E hr => ⟨z_Box_most K (CIof q),
    szs_one (sz_ret (ez_fld (c := 0) (ez_var 0) T.cl_Box T.no_Box__most)),
    fun _ _ _ h => h.2⟩
theorem ok_Box_grow (T : Tx K mg q) : FnOk P w K mg base CX0 1 q.f_Box_grow q.d_Box_grow ["self"] (SpZ K (CIof q) (W_Box_grow K (CIof q))) :=
  fnz_ok T.F_Box_grow sc_Box_grow (fun _ _ _ h => h.1) fun cdv A outer s H E hr => ⟨z_Box_grow K (CIof q),
    szs_one (sz_ret (ez_fld (c := 0) (ez_var 0) T.cl_Box T.no_Box__grow)),
    fun _ _ _ h => h.2⟩
theorem ok_Box_shrink (T : Tx K mg q) : FnOk P w K mg base CX0 1 q.f_Box_shrink q.d_Box_shrink ["self"] (SpZ K (CIof q) (W_Box_shrink K (CIof q))) :=
  fnz_ok T.F_Box_shrink sc_Box_shrink (fun _ _ _ h => h.1) fun cdv A outer s H E hr => ⟨z_Box_shrink K (CIof q),
    szs_one (sz_ret (ez_fld (c := 0) (ez_var 0) T.cl_Box T.no_Box__shrink)),
    fun _ _ _ h => h.2⟩
theorem ok_limited (T : Tx K mg q) : FnOk P w K mg base CX0 1 q.f_limited q.d_limited ["value", "least", "most"] (SpZ K (CIof q) (W_limited K (CIof q))) :=
  fnz_ok T.F_limited sc_limited (fun _ _ _ h => h.1) fun cdv A outer s H E hr => ⟨z_limited K (CIof q),
    szs_cons (sz_if (tz_cmp oz_lt (ez_var 0) (ez_var 1)) (szs_one (sz_ret (ez_var 1))) (szs_nil))
    (szs_cons (sz_if ((wz_and (tz_cmp oz_notN (ez_var 2) (ez_non)) (wz_and1 (tz_cmp oz_gt (ez_var 0) (ez_var 2)))).tz) (szs_one (sz_ret (ez_var 2))) (szs_nil))
    (szs_one (sz_ret (ez_var 0)))),
    fun _ _ _ h => h.2⟩
theorem ok_Box_own (T : Tx K mg q) : FnOk P w K mg base CX0 2 q.f_Box_own q.d_Box_own ["self"] (SpZ K (CIof q) (W_Box_own K (CIof q))) :=
  fnz_ok T.F_Box_own sc_Box_own (fun _ _ _ h => h.1) fun cdv A outer s H E hr => ⟨z_Box_own K (CIof q),
    szs_one (sz_ret (ez_calln (ok_limited T) (hr.mono (by decide)) T.m_limited T.F_limited.kp T.b_limited (az_cons (ez_fld (c := 0) (ez_var 0) T.cl_Box T.no_Box__wish) (az_cons (ez_fld (c := 0) (ez_var 0) T.cl_Box T.no_Box__least) (az_cons (ez_fld (c := 0) (ez_var 0) T.cl_Box T.no_Box__most) (az_nil)))))),
    fun _ _ _ h => h.2⟩
theorem ok__law_order (T : Tx K mg q) : FnOk P w K mg base CX0 1 q.f__law_order q.d__law_order ["one", "two"] (SpZ K (CIof q) (W__law_order K (CIof q))) :=
  fnz_ok T.F__law_order sc__law_order (fun _ _ _ h => h.1) fun cdv A outer s H E hr => ⟨z__law_order K (CIof q),
    szs_one (sz_ret (ez_op oz_sub (ez_op oz_mul (ez_ix (ez_var 0) (ez_int)) (ez_ix (ez_var 1) (ez_int))) (ez_op oz_mul (ez_ix (ez_var 1) (ez_int)) (ez_ix (ez_var 0) (ez_int))))),
    fun _ _ _ h => h.2⟩
theorem ok__law_limited (T : Tx K mg q) : FnOk P w K mg base CX0 2 q.f__law_limited q.d__law_limited ["number", "row"] (SpZ K (CIof q) (W__law_limited K (CIof q))) :=
  fnz_ok T.F__law_limited sc__law_limited (fun _ _ _ h => h.1) fun cdv A outer s H E hr => ⟨z__law_limited K (CIof q),
    szs_cons (sz_if (tz_cmp oz_lt (ez_calln (ok__law_order T) (hr.mono (by decide)) T.m__law_order T.F__law_order.kp T.b__law_order (az_cons (ez_var 0) (az_cons (ez_tup (az_cons (ez_ix (ez_var 1) (ez_int)) (az_cons (ez_int) (az_nil)))) (az_nil)))) (ez_int)) (szs_one (sz_ret (ez_tup (az_cons (ez_ix (ez_var 1) (ez_int)) (az_cons (ez_int) (az_nil)))))) (szs_nil))
    (szs_cons (sz_if ((wz_and (tz_cmp oz_notN (ez_ix (ez_var 1) (ez_int)) (ez_non)) (wz_and1 (tz_cmp oz_gt (ez_calln (ok__law_order T) (hr.mono (by decide)) T.m__law_order T.F__law_order.kp T.b__law_order (az_cons (ez_var 0) (az_cons (ez_tup (az_cons (ez_ix (ez_var 1) (ez_int)) (az_cons (ez_int) (az_nil)))) (az_nil)))) (ez_int)))).tz) (szs_one (sz_ret (ez_tup (az_cons (ez_ix (ez_var 1) (ez_int)) (az_cons (ez_int) (az_nil)))))) (szs_nil))
    (szs_one (sz_ret (ez_var 0)))),
    fun _ _ _ h => h.2⟩
theorem ok__law_own (T : Tx K mg q) : FnOk P w K mg base CX0 3 q.f__law_own q.d__law_own ["row"] (SpZ K (CIof q) (W__law_own K (CIof q))) :=
  fnz_ok T.F__law_own sc__law_own (fun _ _ _ h => h.1) fun cdv A outer s H E hr => ⟨z__law_own K (CIof q),
    szs_one (sz_ret (ez_ix (ez_calln (ok__law_limited T) (hr.mono (by decide)) T.m__law_limited T.F__law_limited.kp T.b__law_limited (az_cons (ez_tup (az_cons (ez_ix (ez_var 0) (ez_int)) (az_cons (ez_int) (az_nil)))) (az_cons (ez_var 0) (az_nil)))) (ez_int))),
    fun _ _ _ h => h.2⟩
theorem ok__law_ratio (T : Tx K mg q) : FnOk P w K mg base CX0 1 q.f__law_ratio q.d__law_ratio ["above", "below"] (SpZ K (CIof q) (W__law_ratio K (CIof q))) :=
  fnz_ok T.F__law_ratio sc__law_ratio (fun _ _ _ h => h.1) fun cdv A outer s H E hr => ⟨z__law_ratio K (CIof q),
    szs_cons (sz_par (i := 2) (j := 3) sc__law_ratio.nd rfl rfl (by decide) rfl rfl (az_cons (ez_callB cz_abs T.n_abs (by decide +kernel) (az_cons (ez_var 0) (az_nil))) (az_cons (ez_callB cz_abs T.n_abs (by decide +kernel) (az_cons (ez_var 1) (az_nil))) (az_nil))))
    (szs_cons (sz_while (tz_cmp oz_gt (ez_var 3) (ez_int)) (szs_one (sz_par (i := 2) (j := 3) sc__law_ratio.nd rfl rfl (by decide) rfl rfl (az_cons (ez_var 3) (az_cons (ez_op oz_mod (ez_var 2) (ez_var 3)) (az_nil))))))
    (szs_cons (sz_if (tz_cmp oz_lt (ez_var 1) (ez_int)) (szs_one (sz_par (i := 0) (j := 1) sc__law_ratio.nd rfl rfl (by decide) rfl rfl (az_cons (ez_op oz_sub (ez_int) (ez_var 0)) (az_cons (ez_op oz_sub (ez_int) (ez_var 1)) (az_nil))))) (szs_nil))
    (szs_one (sz_ret (ez_tup (az_cons (ez_op oz_fdiv (ez_var 0) (ez_var 2)) (az_cons (ez_op oz_fdiv (ez_var 1) (ez_var 2)) (az_nil)))))))),
    fun _ _ _ h => h.2⟩
theorem ok__law_level_list (T : Tx K mg q) : FnOk P w K mg base CX0 2 q.f__law_level_list q.d__law_level_list ["bag", "row"] (SpZ K (CIof q) (W__law_level_list K (CIof q))) :=
  fnz_ok T.F__law_level_list sc__law_level_list (fun _ _ _ h => h.1) fun cdv A outer s H E hr => ⟨z__law_level_list K (CIof q),
    szs_cons (sz_set (i := 2) sc__law_level_list.nd (ez_lstC (az_cons (ez_tup (az_cons (ez_int) (az_cons (ez_int) (az_nil)))) (az_cons (ez_tup (az_cons (ez_int) (az_cons (ez_int) (az_nil)))) (az_cons (ez_tup (az_cons (ez_neg (ez_int)) (az_cons (ez_int) (az_nil)))) (az_cons (ez_calln (ok__law_ratio T) (hr.mono (by decide)) T.m__law_ratio T.F__law_ratio.kp T.b__law_ratio (az_cons (ez_op oz_sub (ez_calln (ok__law_pick T) (hr.mono (by decide)) T.m__law_pick T.F__law_pick.kp T.b__law_pick (az_cons (ez_var 0) (az_cons (ez_int) (az_nil)))) (ez_int)) (az_cons (ez_op oz_add (ez_int) (ez_calln (ok__law_pick T) (hr.mono (by decide)) T.m__law_pick T.F__law_pick.kp T.b__law_pick (az_cons (ez_var 0) (az_cons (ez_int) (az_nil))))) (az_nil)))) (az_nil)))))))
    (szs_cons (sz_set (i := 3) sc__law_level_list.nd (ez_op oz_sub (ez_op oz_mul (ez_int) (ez_calln (ok__law_pick T) (hr.mono (by decide)) T.m__law_pick T.F__law_pick.kp T.b__law_pick (az_cons (ez_var 0) (az_cons (ez_int) (az_nil))))) (ez_int)))
    (szs_cons (sz_expr (ez_append (ez_var 2) (az_cons (ez_calln (ok__law_ratio T) (hr.mono (by decide)) T.m__law_ratio T.F__law_ratio.kp T.b__law_ratio (az_cons (ez_op oz_mul (ez_var 3) (ez_calln (ok__law_pick T) (hr.mono (by decide)) T.m__law_pick T.F__law_pick.kp T.b__law_pick (az_cons (ez_var 0) (az_cons (ez_op oz_pow (ez_int) (ez_int)) (az_nil))))) (az_cons (ez_op oz_add (ez_int) (ez_calln (ok__law_pick T) (hr.mono (by decide)) T.m__law_pick T.F__law_pick.kp T.b__law_pick (az_cons (ez_var 0) (az_cons (ez_op oz_pow (ez_int) (ez_int)) (az_nil))))) (az_nil)))) (az_nil))))
    (szs_cons (sz_expr (ez_append (ez_var 2) (az_cons (ez_tup (az_cons (ez_op oz_mul (ez_var 3) (ez_op oz_sub (ez_op oz_mul (ez_op oz_pow (ez_int) (ez_int)) (ez_op oz_pow (ez_int) (ez_int))) (ez_calln (ok__law_pick T) (hr.mono (by decide)) T.m__law_pick T.F__law_pick.kp T.b__law_pick (az_cons (ez_var 0) (az_cons (ez_op oz_pow (ez_int) (ez_int)) (az_nil)))))) (az_cons (ez_int) (az_nil)))) (az_nil))))
    (szs_cons (sz_for (iz_list (ez_lst (az_cons (ez_ix (ez_var 1) (ez_int)) (az_cons (ez_ix (ez_var 1) (ez_int)) (az_nil))))) (gz_name (i := 4) sc__law_level_list.nd rfl) (szs_one (sz_for (iz_list (ez_lst (az_cons (ez_ix (ez_var 1) (ez_int)) (az_cons (ez_ix (ez_var 1) (ez_int)) (az_nil))))) (gz_name (i := 5) sc__law_level_list.nd rfl) (szs_one (sz_if ((wz_and (tz_cmp oz_notN (ez_var 4) (ez_non)) (wz_and1 (tz_cmp oz_gt (ez_var 5) (ez_int)))).tz) (szs_cons (sz_expr (ez_append (ez_var 2) (az_cons (ez_calln (ok__law_ratio T) (hr.mono (by decide)) T.m__law_ratio T.F__law_ratio.kp T.b__law_ratio (az_cons (ez_op oz_sub (ez_var 4) (ez_ix (ez_var 1) (ez_int))) (az_cons (ez_var 5) (az_nil)))) (az_nil))))
    (szs_one (sz_expr (ez_append (ez_var 2) (az_cons (ez_calln (ok__law_ratio T) (hr.mono (by decide)) T.m__law_ratio T.F__law_ratio.kp T.b__law_ratio (az_cons (ez_op oz_sub (ez_op oz_add (ez_op oz_sub (ez_var 4) (ez_ix (ez_var 1) (ez_int))) (ez_int)) (ez_op oz_mul (ez_int) (ez_calln (ok__law_pick T) (hr.mono (by decide)) T.m__law_pick T.F__law_pick.kp T.b__law_pick (az_cons (ez_var 0) (az_cons (ez_int) (az_nil)))))) (az_cons (ez_var 5) (az_nil)))) (az_nil)))))) (szs_nil))))))
    (szs_one (sz_ret (ez_var 2))))))),
    fun _ _ _ h => h.2⟩
theorem ok_is_fraction (T : Tx K mg q) : FnOk P w K mg base CX0 2 q.f_is_fraction q.d_is_fraction ["value"] (SpZ K (CIof q) (W_is_fraction K (CIof q))) :=
  fnz_ok T.F_is_fraction sc_is_fraction (fun _ _ _ h => h.1) fun cdv A outer s H E hr => ⟨z_is_fraction K (CIof q),
    szs_cons (sz_if ((wz_or (tz_not (tz_val (ez_callB cz_isi T.n_isinstance (by decide +kernel) (az_cons (ez_var 0) (az_cons (ez_ty T.n_tuple PyProof.Rows.boot_tuple) (az_nil)))))) (wz_or1 (tz_cmp (oz_ne hr.units) (ez_callB cz_len T.n_len (by decide +kernel) (az_cons (ez_var 0) (az_nil))) (ez_int)))).tz) (szs_one (sz_ret (ez_bl))) (szs_nil))
    (szs_cons (sz_asg (ez_var 0) (gz_tup (gsz_cons (gz_name (i := 1) sc_is_fraction.nd rfl) (gsz_cons (gz_name (i := 2) sc_is_fraction.nd rfl) (gsz_nil)))))
    (szs_one (sz_ret (ez_and (ez_calln (ok_is_int T) (hr.mono (by decide)) T.m_is_int T.F_is_int.kp T.b_is_int (az_cons (ez_var 1) (az_nil))) (ez_and (ez_calln (ok_is_int T) (hr.mono (by decide)) T.m_is_int T.F_is_int.kp T.b_is_int (az_cons (ez_var 2) (az_nil))) (ez_and (ez_cmp oz_ge (ez_var 2) (ez_int)) (ez_one (ez_cmp (oz_eq hr.units) (ez_callMod cz_gcd T.g_gcd (az_cons (ez_var 1) (az_cons (ez_var 2) (az_nil)))) (ez_int))))))))),
    fun _ _ _ h => h.2⟩
theorem ok_is_rational (T : Tx K mg q) : FnOk P w K mg base CX0 3 q.f_is_rational q.d_is_rational ["value"] (SpZ K (CIof q) (W_is_rational K (CIof q))) :=
  fnz_ok T.F_is_rational sc_is_rational (fun _ _ _ h => h.1) fun cdv A outer s H E hr => ⟨z_is_rational K (CIof q),
    szs_one (sz_ret (ez_or (ez_calln (ok_is_int T) (hr.mono (by decide)) T.m_is_int T.F_is_int.kp T.b_is_int (az_cons (ez_var 0) (az_nil))) (ez_one (ez_calln (ok_is_fraction T) (hr.mono (by decide)) T.m_is_fraction T.F_is_fraction.kp T.b_is_fraction (az_cons (ez_var 0) (az_nil)))))),
    fun _ _ _ h => h.2⟩
theorem ok_lowest (T : Tx K mg q) : FnOk P w K mg base CX0 1 q.f_lowest q.d_lowest ["p", "q"] (SpZ K (CIof q) (W_lowest K (CIof q))) :=
  fnz_ok T.F_lowest sc_lowest (fun _ _ _ h => h.1) fun cdv A outer s H E hr => ⟨z_lowest K (CIof q),
    szs_cons (sz_set (i := 2) sc_lowest.nd (ez_callMod cz_gcd T.g_gcd (az_cons (ez_var 0) (az_cons (ez_var 1) (az_nil)))))
    (szs_one (sz_ret (ez_tup (az_cons (ez_op oz_fdiv (ez_var 0) (ez_var 2)) (az_cons (ez_op oz_fdiv (ez_var 1) (ez_var 2)) (az_nil)))))),
    fun _ _ _ h => h.2⟩
theorem ok_weight_at (T : Tx K mg q) : FnOk P w K mg base CX0 3 q.f_weight_at q.d_weight_at ["box", "level"] (SpZ K (CIof q) (W_weight_at K (CIof q))) :=
  fnz_ok T.F_weight_at sc_weight_at (fun _ _ _ h => h.1) fun cdv A outer s H E hr => ⟨z_weight_at K (CIof q),
    szs_one (sz_ret (ez_if (tz_cmp oz_ge (ez_ix (ez_var 1) (ez_int)) (ez_int)) (ez_prop (c := 0) (ez_var 0) T.cl_Box T.pr_Box_grow (ok_Box_grow T) (hr.mono (by decide)) T.b_Box_grow) (ez_prop (c := 0) (ez_var 0) T.cl_Box T.pr_Box_shrink (ok_Box_shrink T) (hr.mono (by decide)) T.b_Box_shrink))),
    fun _ _ _ h => h.2⟩
theorem ok_scaled_size (T : Tx K mg q) : FnOk P w K mg base CX0 4 q.f_scaled_size q.d_scaled_size ["box", "level"] (SpZ K (CIof q) (W_scaled_size K (CIof q))) :=
  fnz_ok T.F_scaled_size sc_scaled_size (fun _ _ _ h => h.1) fun cdv A outer s H E hr => ⟨z_scaled_size K (CIof q),
    szs_cons (sz_asg (ez_var 1) (gz_tup (gsz_cons (gz_name (i := 2) sc_scaled_size.nd rfl) (gsz_cons (gz_name (i := 3) sc_scaled_size.nd rfl) (gsz_nil)))))
    (szs_cons (sz_set (i := 4) sc_scaled_size.nd (ez_if (tz_cmp oz_isN (ez_prop (c := 0) (ez_var 0) T.cl_Box T.pr_Box_most (ok_Box_most T) (hr.mono (by decide)) T.b_Box_most) (ez_non)) (ez_non) (ez_op oz_mul (ez_prop (c := 0) (ez_var 0) T.cl_Box T.pr_Box_most (ok_Box_most T) (hr.mono (by decide)) T.b_Box_most) (ez_var 3))))
    (szs_one (sz_ret (ez_calln (ok_limited T) (hr.mono (by decide)) T.m_limited T.F_limited.kp T.b_limited (az_cons (ez_op oz_add (ez_op oz_mul (ez_prop (c := 0) (ez_var 0) T.cl_Box T.pr_Box_wish (ok_Box_wish T) (hr.mono (by decide)) T.b_Box_wish) (ez_var 3)) (ez_op oz_mul (ez_var 2) (ez_calln (ok_weight_at T) (hr.mono (by decide)) T.m_weight_at T.F_weight_at.kp T.b_weight_at (az_cons (ez_var 0) (az_cons (ez_var 1) (az_nil)))))) (az_cons (ez_op oz_mul (ez_prop (c := 0) (ez_var 0) T.cl_Box T.pr_Box_least (ok_Box_least T) (hr.mono (by decide)) T.b_Box_least) (ez_var 3)) (az_cons (ez_var 4) (az_nil)))))))),
    fun _ _ _ h => h.2⟩
theorem ok_size_at (T : Tx K mg q) : FnOk P w K mg base CX0 5 q.f_size_at q.d_size_at ["box", "level"] (SpZ K (CIof q) (W_size_at K (CIof q))) :=
  fnz_ok T.F_size_at sc_size_at (fun _ _ _ h => h.1) fun cdv A outer s H E hr => ⟨z_size_at K (CIof q),
    szs_one (sz_ret (ez_calln (ok_lowest T) (hr.mono (by decide)) T.m_lowest T.F_lowest.kp T.b_lowest (az_cons (ez_calln (ok_scaled_size T) (hr.mono (by decide)) T.m_scaled_size T.F_scaled_size.kp T.b_scaled_size (az_cons (ez_var 0) (az_cons (ez_var 1) (az_nil)))) (az_cons (ez_ix (ez_var 1) (ez_int)) (az_nil))))),
    fun _ _ _ h => h.2⟩
theorem ok_as_fraction (T : Tx K mg q) : FnOk P w K mg base CX0 1 q.f_as_fraction q.d_as_fraction ["value"] (SpZ K (CIof q) (W_as_fraction K (CIof q))) :=
  fnz_ok T.F_as_fraction sc_as_fraction (fun _ _ _ h => h.1) fun cdv A outer s H E hr => ⟨z_as_fraction K (CIof q),
    szs_one (sz_ret (ez_if (tz_val (ez_callB cz_isi T.n_isinstance (by decide +kernel) (az_cons (ez_var 0) (az_cons (ez_ty T.n_tuple PyProof.Rows.boot_tuple) (az_nil))))) (ez_var 0) (ez_tup (az_cons (ez_var 0) (az_cons (ez_int) (az_nil)))))),
    fun _ _ _ h => h.2⟩
theorem ok_Box_d_call_d (T : Tx K mg q) : FnOk P w K mg base CX0 6 q.f_Box_d_call_d q.d_Box_d_call_d ["self", "level"] (SpZ K (CIof q) (W_Box_d_call_d K (CIof q))) :=
  fnz_ok T.F_Box_d_call_d sc_Box_d_call_d (fun _ _ _ h => h.1) fun cdv A outer s H E hr => ⟨z_Box_d_call_d K (CIof q),
    szs_cons (sz_if (tz_not (tz_val (ez_calln (ok_is_rational T) (hr.mono (by decide)) T.m_is_rational T.F_is_rational.kp T.b_is_rational (az_cons (ez_var 1) (az_nil))))) (szs_one (sz_never)) (szs_nil))
    (szs_one (sz_ret (ez_calln (ok_size_at T) (hr.mono (by decide)) T.m_size_at T.F_size_at.kp T.b_size_at (az_cons (ez_var 0) (az_cons (ez_calln (ok_as_fraction T) (hr.mono (by decide)) T.m_as_fraction T.F_as_fraction.kp T.b_as_fraction (az_cons (ez_var 1) (az_nil))) (az_nil)))))),
    fun _ _ _ h => h.2⟩
theorem ok__law_size (T : Tx K mg q) : FnOk P w K mg base CX0 3 q.f__law_size q.d__law_size ["row", "level"] (SpZ K (CIof q) (W__law_size K (CIof q))) :=
  fnz_ok T.F__law_size sc__law_size (fun _ _ _ h => h.1) fun cdv A outer s H E hr => ⟨z__law_size K (CIof q),
    szs_cons (sz_set (i := 2) sc__law_size.nd (ez_if (tz_cmp oz_ge (ez_ix (ez_var 1) (ez_int)) (ez_int)) (ez_ix (ez_var 0) (ez_int)) (ez_ix (ez_var 0) (ez_int))))
    (szs_one (sz_ret (ez_calln (ok__law_limited T) (hr.mono (by decide)) T.m__law_limited T.F__law_limited.kp T.b__law_limited (az_cons (ez_calln (ok__law_ratio T) (hr.mono (by decide)) T.m__law_ratio T.F__law_ratio.kp T.b__law_ratio (az_cons (ez_op oz_add (ez_op oz_mul (ez_ix (ez_var 0) (ez_int)) (ez_ix (ez_var 1) (ez_int))) (ez_op oz_mul (ez_ix (ez_var 1) (ez_int)) (ez_var 2))) (az_cons (ez_ix (ez_var 1) (ez_int)) (az_nil)))) (az_cons (ez_var 0) (az_nil)))))),
    fun _ _ _ h => h.2⟩
theorem ok_Box_d_eq_d (T : Tx K mg q) : FnOk P w K mg base CX0 1 q.f_Box_d_eq_d q.d_Box_d_eq_d ["self", "other"] (SpZ K (CIof q) (W_Box_d_eq_d K (CIof q))) :=
  fnz_ok T.F_Box_d_eq_d sc_Box_d_eq_d (fun _ _ _ h => h.1) fun cdv A outer s H E hr => ⟨z_Box_d_eq_d K (CIof q),
    szs_one (sz_ret (ez_and (ez_callB cz_isi T.n_isinstance (by decide +kernel) (az_cons (ez_var 1) (az_cons (ez_cls T.m_Box) (az_nil)))) (ez_and (ez_cmp (oz_eq hr.units) (ez_fld (c := 0) (ez_var 0) T.cl_Box T.no_Box__wish) (ez_fld (c := 0) (ez_var 1) T.cl_Box T.no_Box__wish)) (ez_and (ez_cmp (oz_eq hr.units) (ez_fld (c := 0) (ez_var 0) T.cl_Box T.no_Box__least) (ez_fld (c := 0) (ez_var 1) T.cl_Box T.no_Box__least)) (ez_and (ez_cmp (oz_eq hr.units) (ez_fld (c := 0) (ez_var 0) T.cl_Box T.no_Box__most) (ez_fld (c := 0) (ez_var 1) T.cl_Box T.no_Box__most)) (ez_and (ez_cmp (oz_eq hr.units) (ez_fld (c := 0) (ez_var 0) T.cl_Box T.no_Box__grow) (ez_fld (c := 0) (ez_var 1) T.cl_Box T.no_Box__grow)) (ez_one (ez_cmp (oz_eq hr.units) (ez_fld (c := 0) (ez_var 0) T.cl_Box T.no_Box__shrink) (ez_fld (c := 0) (ez_var 1) T.cl_Box T.no_Box__shrink))))))))),
    fun _ _ _ h => h.2⟩
theorem ok__law_box_right (T : Tx K mg q) : FnG P w K mg base 7 q.f__law_box_right q.d__law_box_right ["bag", "row"] (SpZ K (CIof q) (W__law_box_right K (CIof q))) :=
  fng_ok T.F__law_box_right sc__law_box_right (fun _ _ _ h => h.1) fun cdv B fr st hp x gd hr => ⟨z__law_box_right K (CIof q),
    szs_cons (sz_set (i := 2) sc__law_box_right.nd (ez_makeF (c := 0) T.mk_Box (ok_Box_d_init_d T) (hr.mono (by decide)) T.m_Box T.b_Box_d_init_d .nil (fun _ _ _ => .nil) (az_cons (ez_ix (ez_var 1) (ez_int)) (az_cons (ez_ix (ez_var 1) (ez_int)) (az_cons (ez_ix (ez_var 1) (ez_int)) (az_cons (ez_ix (ez_var 1) (ez_int)) (az_cons (ez_ix (ez_var 1) (ez_int)) (az_nil))))))))
    (szs_cons (sz_for (iz_r1 (az_cons (ez_int) (az_nil)) T.n_range) (gz_name (i := 3) sc__law_box_right.nd rfl) (szs_cons (sz_set (i := 4) sc__law_box_right.nd (ez_lst (az_cons (ez_prop (c := 0) (ez_var 2) T.cl_Box T.pr_Box_wish (ok_Box_wish T) (hr.mono (by decide)) T.b_Box_wish) (az_cons (ez_prop (c := 0) (ez_var 2) T.cl_Box T.pr_Box_least (ok_Box_least T) (hr.mono (by decide)) T.b_Box_least) (az_cons (ez_prop (c := 0) (ez_var 2) T.cl_Box T.pr_Box_most (ok_Box_most T) (hr.mono (by decide)) T.b_Box_most) (az_cons (ez_prop (c := 0) (ez_var 2) T.cl_Box T.pr_Box_grow (ok_Box_grow T) (hr.mono (by decide)) T.b_Box_grow) (az_cons (ez_prop (c := 0) (ez_var 2) T.cl_Box T.pr_Box_shrink (ok_Box_shrink T) (hr.mono (by decide)) T.b_Box_shrink) (az_cons (ez_prop (c := 0) (ez_var 2) T.cl_Box T.pr_Box_own (ok_Box_own T) (hr.mono (by decide)) T.b_Box_own) (az_nil)))))))))
    (szs_cons (sz_if (tz_cmp (oz_ne hr.units) (ez_callB (cz_repr gd hr.units) T.n_repr (by decide +kernel) (az_cons (ez_var 4) (az_nil))) (ez_callB (cz_repr gd hr.units) T.n_repr (by decide +kernel) (az_cons (ez_op oz_cat (ez_callTy cz_list T.n_list (by decide +kernel) (az_cons (ez_var 1) (az_nil))) (ez_lst (az_cons (ez_calln (ok__law_own T) (hr.mono (by decide)) T.m__law_own T.F__law_own.kp T.b__law_own (az_cons (ez_var 1) (az_nil))) (az_nil)))) (az_nil)))) (szs_one (sz_ret (ez_bl))) (szs_nil))
    (szs_one (sz_for (iz_list (ez_calln (fn_frzM (ok__law_level_list T)) (hr.mono (by decide)) T.m__law_level_list T.F__law_level_list.kp T.b__law_level_list (az_cons (ez_var 0) (az_cons (ez_var 1) (az_nil))))) (gz_name (i := 5) sc__law_box_right.nd rfl) (szs_cons (sz_if (tz_cmp (oz_ne hr.units) (ez_callB (cz_repr gd hr.units) T.n_repr (by decide +kernel) (az_cons (ez_callO (c := 0) (ez_var 2) T.co_Box (ok_Box_d_call_d T) (hr.mono (by decide)) T.b_Box_d_call_d (az_cons (ez_var 5) (az_nil))) (az_nil))) (ez_callB (cz_repr gd hr.units) T.n_repr (by decide +kernel) (az_cons (ez_calln (ok__law_size T) (hr.mono (by decide)) T.m__law_size T.F__law_size.kp T.b__law_size (az_cons (ez_var 1) (az_cons (ez_var 5) (az_nil)))) (az_nil)))) (szs_one (sz_ret (ez_bl))) (szs_nil))
    (szs_one (sz_if ((wz_and (tz_cmp (oz_eqA (ok_Box_d_eq_d T) (hr.mono (by decide)) T.eq_Box T.b_Box_d_eq_d) (ez_ix (ez_var 5) (ez_int)) (ez_int)) (wz_and1 (tz_cmp (oz_ne hr.units) (ez_callB (cz_repr gd hr.units) T.n_repr (by decide +kernel) (az_cons (ez_callO (c := 0) (ez_var 2) T.co_Box (ok_Box_d_call_d T) (hr.mono (by decide)) T.b_Box_d_call_d (az_cons (ez_ix (ez_var 5) (ez_int)) (az_nil))) (az_nil))) (ez_callB (cz_repr gd hr.units) T.n_repr (by decide +kernel) (az_cons (ez_calln (ok__law_size T) (hr.mono (by decide)) T.m__law_size T.F__law_size.kp T.b__law_size (az_cons (ez_var 1) (az_cons (ez_var 5) (az_nil)))) (az_nil)))))).tz) (szs_one (sz_ret (ez_bl))) (szs_nil)))))))))
    (szs_cons (sz_set (i := 6) sc__law_box_right.nd (ez_makeK0 (c := 0) (ks := ["shrink", "grow", "most", "least", "wish"]) (l := [.k 4, .k 3, .k 2, .k 1, .k 0]) T.mk_Box (ok_Box_d_init_d T) (hr.mono (by decide)) T.m_Box T.kb0_shrink_grow_most_least_wish_Box_d_init_d (fun _ _ _ => .cons (.int 0) (.cons .non (.cons (.int 0) (.cons (.int 0) (.nil))))) (kz_cons (ez_ix (ez_var 1) (ez_int)) (kz_cons (ez_ix (ez_var 1) (ez_int)) (kz_cons (ez_ix (ez_var 1) (ez_int)) (kz_cons (ez_ix (ez_var 1) (ez_int)) (kz_cons (ez_ix (ez_var 1) (ez_int)) (kz_nil))))))))
    (szs_cons (sz_set (i := 7) sc__law_box_right.nd (ez_makeK (c := 0) (ks := ["most", "grow", "shrink"]) (l := [.k 0, .k 1, .k 2]) T.mk_Box (ok_Box_d_init_d T) (hr.mono (by decide)) T.m_Box T.kb2_most_grow_shrink_Box_d_init_d (fun _ _ _ => .cons (.int 0) (.cons .non (.cons (.int 0) (.cons (.int 0) (.nil))))) (az_cons (ez_ix (ez_var 1) (ez_int)) (az_cons (ez_ix (ez_var 1) (ez_int)) (az_nil))) (kz_cons (ez_ix (ez_var 1) (ez_int)) (kz_cons (ez_ix (ez_var 1) (ez_int)) (kz_cons (ez_ix (ez_var 1) (ez_int)) (kz_nil))))))
    (szs_cons (sz_if ((wz_or (tz_not (tz_cmp (oz_eqA (ok_Box_d_eq_d T) (hr.mono (by decide)) T.eq_Box T.b_Box_d_eq_d) (ez_var 2) (ez_var 6))) (wz_or (tz_not (tz_cmp (oz_eqA (ok_Box_d_eq_d T) (hr.mono (by decide)) T.eq_Box T.b_Box_d_eq_d) (ez_var 6) (ez_var 2))) (wz_or1 (tz_not (tz_cmp (oz_eqA (ok_Box_d_eq_d T) (hr.mono (by decide)) T.eq_Box T.b_Box_d_eq_d) (ez_var 7) (ez_var 2)))))).tz) (szs_one (sz_ret (ez_bl))) (szs_nil))
    (szs_cons (sz_if ((wz_and (tz_cmp (oz_eqA (ok_Box_d_eq_d T) (hr.mono (by decide)) T.eq_Box T.b_Box_d_eq_d) (ez_slT (ez_var 1) (oz_some (ez_int)) oz_none) (ez_tup (az_cons (ez_int) (az_cons (ez_non) (az_cons (ez_int) (az_cons (ez_int) (az_nil))))))) (wz_and1 (tz_not (tz_cmp (oz_eqA (ok_Box_d_eq_d T) (hr.mono (by decide)) T.eq_Box T.b_Box_d_eq_d) (ez_makeD (c := 0) T.mk_Box (ok_Box_d_init_d T) (hr.mono (by decide)) T.m_Box T.b4_Box_d_init_d (fun _ _ _ => .cons (.int 0) (.cons .non (.cons (.int 0) (.cons (.int 0) (.nil))))) (az_cons (ez_ix (ez_var 1) (ez_int)) (az_nil))) (ez_var 2))))).tz) (szs_one (sz_ret (ez_bl))) (szs_nil))
    (szs_cons (sz_for (iz_r1 (az_cons (ez_int) (az_nil)) T.n_range) (gz_name (i := 8) sc__law_box_right.nd rfl) (szs_cons (sz_set (i := 9) sc__law_box_right.nd (ez_callTy cz_listC T.n_list (by decide +kernel) (az_cons (ez_var 1) (az_nil))))
    (szs_cons (sz_asgSub (ez_if ((wz_or (tz_cmp oz_isN (ez_ix (ez_var 1) (ez_var 8)) (ez_non)) (wz_or1 (tz_cmp oz_lt (ez_ix (ez_var 1) (ez_var 8)) (ez_op oz_pow (ez_int) (ez_int))))).tz) (ez_ix (ez_lst (az_cons (ez_int) (az_cons (ez_int) (az_nil)))) (ez_callTy cz_int T.n_int (by decide +kernel) (az_cons (ez_cmp (oz_eqA (ok_Box_d_eq_d T) (hr.mono (by decide)) T.eq_Box T.b_Box_d_eq_d) (ez_ix (ez_var 1) (ez_var 8)) (ez_int)) (az_nil)))) (ez_op oz_sub (ez_ix (ez_var 1) (ez_var 8)) (ez_int))) (gz_sub (ez_var 9) (ez_var 8)))
    (szs_one (sz_if ((wz_or (tz_cmp oz_isN (ez_ix (ez_var 9) (ez_int)) (ez_non)) (wz_or1 (tz_cmp oz_le (ez_ix (ez_var 9) (ez_int)) (ez_ix (ez_var 9) (ez_int))))).tz) (szs_cons (sz_set (i := 10) sc__law_box_right.nd (ez_makeF (c := 0) T.mk_Box (ok_Box_d_init_d T) (hr.mono (by decide)) T.m_Box T.b_Box_d_init_d .nil (fun _ _ _ => .nil) (az_cons (ez_ix (ez_var 9) (ez_int)) (az_cons (ez_ix (ez_var 9) (ez_int)) (az_cons (ez_ix (ez_var 9) (ez_int)) (az_cons (ez_ix (ez_var 9) (ez_int)) (az_cons (ez_ix (ez_var 9) (ez_int)) (az_nil))))))))
    (szs_one (sz_if ((wz_or (tz_cmp (oz_eqA (ok_Box_d_eq_d T) (hr.mono (by decide)) T.eq_Box T.b_Box_d_eq_d) (ez_var 10) (ez_var 2)) (wz_or1 (tz_cmp (oz_eqA (ok_Box_d_eq_d T) (hr.mono (by decide)) T.eq_Box T.b_Box_d_eq_d) (ez_var 2) (ez_var 10)))).tz) (szs_one (sz_ret (ez_bl))) (szs_nil)))) (szs_nil))))))
    (szs_one (sz_ret (ez_cmp (oz_eqA (ok_Box_d_eq_d T) (hr.mono (by decide)) T.eq_Box T.b_Box_d_eq_d) (ez_lc (own := [("odd", 11)]) sc__law_box_right.nd (iz_list (ez_lst (az_cons (ez_non) (az_cons (ez_var 1) (az_cons (ez_callTy cz_list T.n_list (by decide +kernel) (az_cons (ez_var 1) (az_nil))) (az_cons (ez_int) (az_cons (ez_str) (az_cons (ez_lst (az_cons (ez_var 2) (az_nil))) (az_nil))))))))) (blkOk_by (N := N__law_box_right) (sc := defScope s__law_box_right) (by decide +kernel)) (own_name (i := 11) (by decide)) (blkz (ref_gName) (fun _ _ _ _ _ => pg_name (i := 11) sc__law_box_right.nd rfl (.inl rfl)) (fun _ _ _ _ _ => tsz_one (tz_cmp (oz_eqA (ok_Box_d_eq_d T) (hr.mono (by decide)) T.eq_Box T.b_Box_d_eq_d) (ez_var 2) (ez_var 11))) (fun _ _ _ _ _ => ez_var 11))) (ez_lst (az_nil))))))))))),
    fun _ _ _ h => h.2⟩
theorem ok_law (T : Tx K mg q) : FnG P w K mg base 8 q.f_law q.d_law ["script"] (SpZ K (CIof q) (W_law K (CIof q))) :=
  fng_ok T.F_law sc_law (fun _ _ _ h => h.1) fun cdv B fr st hp x gd hr => ⟨z_law K (CIof q),
    szs_cons (sz_for (iz_list (ez_op oz_cat (ez_sl (ez_var 0) oz_none (oz_some (ez_int))) (ez_lst (az_cons (ez_int) (az_nil))))) (gz_name (i := 1) sc_law.nd rfl) (szs_cons (sz_set (i := 2) sc_law.nd (ez_calln (ok__law_bag T) (hr.mono (by decide)) T.m__law_bag T.F__law_bag.kp T.b__law_bag (az_cons (ez_var 1) (az_nil))))
    (szs_one (sz_for (iz_list (ez_calln (ok__law_rows T) (hr.mono (by decide)) T.m__law_rows T.F__law_rows.kp T.b__law_rows (az_cons (ez_var 2) (az_cons (ez_int) (az_nil))))) (gz_name (i := 3) sc_law.nd rfl) (szs_one (sz_if (tz_not (tz_val (ez_callG (ok__law_box_right T) gd (hr.mono (by decide)) T.m__law_box_right T.F__law_box_right.kp T.b__law_box_right (az_cons (ez_var 2) (az_cons (ez_var 3) (az_nil)))))) (szs_one (sz_ret (ez_bl))) (szs_nil)))))))
    (szs_cons (sz_set (i := 4) sc_law.nd (ez_makeF (c := 0) T.mk_Box (ok_Box_d_init_d T) (hr.mono (by decide)) T.m_Box T.b_Box_d_init_d .nil (fun _ _ _ => .nil) (az_cons (ez_op oz_pow (ez_int) (ez_int)) (az_cons (ez_op oz_pow (ez_int) (ez_int)) (az_cons (ez_op oz_pow (ez_int) (ez_int)) (az_cons (ez_op oz_pow (ez_int) (ez_int)) (az_cons (ez_op oz_pow (ez_int) (ez_int)) (az_nil))))))))
    (szs_one (sz_ret (ez_and (ez_cmp oz_isN (ez_prop (c := 0) (ez_makeD (c := 0) T.mk_Box (ok_Box_d_init_d T) (hr.mono (by decide)) T.m_Box T.b4_Box_d_init_d (fun _ _ _ => .cons (.int 0) (.cons .non (.cons (.int 0) (.cons (.int 0) (.nil))))) (az_cons (ez_int) (az_nil))) T.cl_Box T.pr_Box_most (ok_Box_most T) (hr.mono (by decide)) T.b_Box_most) (ez_non)) (ez_one (ez_cmp (oz_eq hr.units) (ez_callO (c := 0) (ez_var 4) T.co_Box (ok_Box_d_call_d T) (hr.mono (by decide)) T.b_Box_d_call_d (az_cons (ez_tup (az_cons (ez_op oz_pow (ez_int) (ez_int)) (az_cons (ez_int) (az_nil)))) (az_nil))) (ez_tup (az_cons (ez_op oz_pow (ez_int) (ez_int)) (az_cons (ez_int) (az_nil)))))))))),
    fun _ _ _ h => h.2⟩
end
theorem all_mk {l : PySem.W.OpenLaw} {w : World} {K : PySem.W.Frag} {h : Heap} {mg : Str → Option Value} {fa : Addr} (X : K.In h) (G : h.Ns mainGlobals mg) (hfa : mg "law" = some (.ref fa))
    {f__law_bag : Addr} {od__law_bag : Option Addr} {an__law_bag : Option Addr} {sl__law_bag : Array (Option Value)} {oc__law_bag : Value} {kV__law_bag : Value} {dc__law_bag : Value} {pm__law_bag : Value} {cd__law_bag : Value} {ct__law_bag : Value} {f__law_pick : Addr} {od__law_pick : Option Addr} {an__law_pick : Option Addr} {sl__law_pick : Array (Option Value)} {oc__law_pick : Value} {kV__law_pick : Value} {dc__law_pick : Value} {pm__law_pick : Value} {cd__law_pick : Value} {ct__law_pick : Value} {f__law_numbers : Addr} {od__law_numbers : Option Addr} {an__law_numbers : Option Addr} {sl__law_numbers : Array (Option Value)} {oc__law_numbers : Value} {kV__law_numbers : Value} {dc__law_numbers : Value} {pm__law_numbers : Value} {cd__law_numbers : Value} {ct__law_numbers : Value} {f__law_rows : Addr} {od__law_rows : Option Addr} {an__law_rows : Option Addr} {sl__law_rows : Array (Option Value)} {oc__law_rows : Value} {kV__law_rows : Value} {dc__law_rows : Value} {pm__law_rows : Value} {cd__law_rows : Value} {ct__law_rows : Value} {f_is_int : Addr} {od_is_int : Option Addr} {an_is_int : Option Addr} {sl_is_int : Array (Option Value)} {oc_is_int : Value} {kV_is_int : Value} {dc_is_int : Value} {pm_is_int : Value} {cd_is_int : Value} {ct_is_int : Value} {f_in_bounds : Addr} {od_in_bounds : Option Addr} {an_in_bounds : Option Addr} {sl_in_bounds : Array (Option Value)} {oc_in_bounds : Value} {kV_in_bounds : Value} {dc_in_bounds : Value} {pm_in_bounds : Value} {cd_in_bounds : Value} {ct_in_bounds : Value} {f_are_box_numbers : Addr} {od_are_box_numbers : Option Addr} {an_are_box_numbers : Option Addr} {sl_are_box_numbers : Array (Option Value)} {oc_are_box_numbers : Value} {kV_are_box_numbers : Value} {dc_are_box_numbers : Value} {pm_are_box_numbers : Value} {cd_are_box_numbers : Value} {ct_are_box_numbers : Value} {f_Box_d_init_d : Addr} {od_Box_d_init_d : Option Addr} {an_Box_d_init_d : Option Addr} {sl_Box_d_init_d : Array (Option Value)} {oc_Box_d_init_d : Value} {kV_Box_d_init_d : Value} {dc_Box_d_init_d : Value} {pm_Box_d_init_d : Value} {cd_Box_d_init_d : Value} {ct_Box_d_init_d : Value} {T_Box_d_init_d : Addr} {Tc_Box_d_init_d : Value} {Td_Box_d_init_d : Option Addr} {Tn_Box_d_init_d : Nat} {Ts_Box_d_init_d : Array (Option Value)} {t0_Box_d_init_d : Tok} {t2_Box_d_init_d : Tok} {t3_Box_d_init_d : Tok} {f_Box_wish : Addr} {od_Box_wish : Option Addr} {an_Box_wish : Option Addr} {sl_Box_wish : Array (Option Value)} {oc_Box_wish : Value} {kV_Box_wish : Value} {dc_Box_wish : Value} {pm_Box_wish : Value} {cd_Box_wish : Value} {ct_Box_wish : Value} {f_Box_least : Addr} {od_Box_least : Option Addr} {an_Box_least : Option Addr} {sl_Box_least : Array (Option Value)} {oc_Box_least : Value} {kV_Box_least : Value} {dc_Box_least : Value} {pm_Box_least : Value} {cd_Box_least : Value} {ct_Box_least : Value} {f_Box_most : Addr} {od_Box_most : Option Addr} {an_Box_most : Option Addr} {sl_Box_most : Array (Option Value)} {oc_Box_most : Value} {kV_Box_most : Value} {dc_Box_most : Value} {pm_Box_most : Value} {cd_Box_most : Value} {ct_Box_most : Value} {f_Box_grow : Addr} {od_Box_grow : Option Addr} {an_Box_grow : Option Addr} {sl_Box_grow : Array (Option Value)} {oc_Box_grow : Value} {kV_Box_grow : Value} {dc_Box_grow : Value} {pm_Box_grow : Value} {cd_Box_grow : Value} {ct_Box_grow : Value} {f_Box_shrink : Addr} {od_Box_shrink : Option Addr} {an_Box_shrink : Option Addr} {sl_Box_shrink : Array (Option Value)} {oc_Box_shrink : Value} {kV_Box_shrink : Value} {dc_Box_shrink : Value} {pm_Box_shrink : Value} {cd_Box_shrink : Value} {ct_Box_shrink : Value} {f_limited : Addr} {od_limited : Option Addr} {an_limited : Option Addr} {sl_limited : Array (Option Value)} {oc_limited : Value} {kV_limited : Value} {dc_limited : Value} {pm_limited : Value} {cd_limited : Value} {ct_limited : Value} {f_Box_own : Addr} {od_Box_own : Option Addr} {an_Box_own : Option Addr} {sl_Box_own : Array (Option Value)} {oc_Box_own : Value} {kV_Box_own : Value} {dc_Box_own : Value} {pm_Box_own : Value} {cd_Box_own : Value} {ct_Box_own : Value} {f__law_order : Addr} {od__law_order : Option Addr} {an__law_order : Option Addr} {sl__law_order : Array (Option Value)} {oc__law_order : Value} {kV__law_order : Value} {dc__law_order : Value} {pm__law_order : Value} {cd__law_order : Value} {ct__law_order : Value} {f__law_limited : Addr} {od__law_limited : Option Addr} {an__law_limited : Option Addr} {sl__law_limited : Array (Option Value)} {oc__law_limited : Value} {kV__law_limited : Value} {dc__law_limited : Value} {pm__law_limited : Value} {cd__law_limited : Value} {ct__law_limited : Value} {f__law_own : Addr} {od__law_own : Option Addr} {an__law_own : Option Addr} {sl__law_own : Array (Option Value)} {oc__law_own : Value} {kV__law_own : Value} {dc__law_own : Value} {pm__law_own : Value} {cd__law_own : Value} {ct__law_own : Value} {f__law_ratio : Addr} {od__law_ratio : Option Addr} {an__law_ratio : Option Addr} {sl__law_ratio : Array (Option Value)} {oc__law_ratio : Value} {kV__law_ratio : Value} {dc__law_ratio : Value} {pm__law_ratio : Value} {cd__law_ratio : Value} {ct__law_ratio : Value} {f__law_level_list : Addr} {od__law_level_list : Option Addr} {an__law_level_list : Option Addr} {sl__law_level_list : Array (Option Value)} {oc__law_level_list : Value} {kV__law_level_list : Value} {dc__law_level_list : Value} {pm__law_level_list : Value} {cd__law_level_list : Value} {ct__law_level_list : Value} {f_is_fraction : Addr} {od_is_fraction : Option Addr} {an_is_fraction : Option Addr} {sl_is_fraction : Array (Option Value)} {oc_is_fraction : Value} {kV_is_fraction : Value} {dc_is_fraction : Value} {pm_is_fraction : Value} {cd_is_fraction : Value} {ct_is_fraction : Value} {f_is_rational : Addr} {od_is_rational : Option Addr} {an_is_rational : Option Addr} {sl_is_rational : Array (Option Value)} {oc_is_rational : Value} {kV_is_rational : Value} {dc_is_rational : Value} {pm_is_rational : Value} {cd_is_rational : Value} {ct_is_rational : Value} {f_lowest : Addr} {od_lowest : Option Addr} {an_lowest : Option Addr} {sl_lowest : Array (Option Value)} {oc_lowest : Value} {kV_lowest : Value} {dc_lowest : Value} {pm_lowest : Value} {cd_lowest : Value} {ct_lowest : Value} {f_weight_at : Addr} {od_weight_at : Option Addr} {an_weight_at : Option Addr} {sl_weight_at : Array (Option Value)} {oc_weight_at : Value} {kV_weight_at : Value} {dc_weight_at : Value} {pm_weight_at : Value} {cd_weight_at : Value} {ct_weight_at : Value} {f_scaled_size : Addr} {od_scaled_size : Option Addr} {an_scaled_size : Option Addr} {sl_scaled_size : Array (Option Value)} {oc_scaled_size : Value} {kV_scaled_size : Value} {dc_scaled_size : Value} {pm_scaled_size : Value} {cd_scaled_size : Value} {ct_scaled_size : Value} {f_size_at : Addr} {od_size_at : Option Addr} {an_size_at : Option Addr} {sl_size_at : Array (Option Value)} {oc_size_at : Value} {kV_size_at : Value} {dc_size_at : Value} {pm_size_at : Value} {cd_size_at : Value} {ct_size_at : Value} {f_as_fraction : Addr} {od_as_fraction : Option Addr} {an_as_fraction : Option Addr} {sl_as_fraction : Array (Option Value)} {oc_as_fraction : Value} {kV_as_fraction : Value} {dc_as_fraction : Value} {pm_as_fraction : Value} {cd_as_fraction : Value} {ct_as_fraction : Value} {f_Box_d_call_d : Addr} {od_Box_d_call_d : Option Addr} {an_Box_d_call_d : Option Addr} {sl_Box_d_call_d : Array (Option Value)} {oc_Box_d_call_d : Value} {kV_Box_d_call_d : Value} {dc_Box_d_call_d : Value} {pm_Box_d_call_d : Value} {cd_Box_d_call_d : Value} {ct_Box_d_call_d : Value} {f__law_size : Addr} {od__law_size : Option Addr} {an__law_size : Option Addr} {sl__law_size : Array (Option Value)} {oc__law_size : Value} {kV__law_size : Value} {dc__law_size : Value} {pm__law_size : Value} {cd__law_size : Value} {ct__law_size : Value} {f_Box_d_eq_d : Addr} {od_Box_d_eq_d : Option Addr} {an_Box_d_eq_d : Option Addr} {sl_Box_d_eq_d : Array (Option Value)} {oc_Box_d_eq_d : Value} {kV_Box_d_eq_d : Value} {dc_Box_d_eq_d : Value} {pm_Box_d_eq_d : Value} {cd_Box_d_eq_d : Value} {ct_Box_d_eq_d : Value} {f__law_box_right : Addr} {od__law_box_right : Option Addr} {an__law_box_right : Option Addr} {sl__law_box_right : Array (Option Value)} {oc__law_box_right : Value} {kV__law_box_right : Value} {dc__law_box_right : Value} {pm__law_box_right : Value} {cd__law_box_right : Value} {ct__law_box_right : Value} {f_law : Addr} {od_law : Option Addr} {an_law : Option Addr} {sl_law : Array (Option Value)} {oc_law : Value} {kV_law : Value} {dc_law : Value} {pm_law : Value} {cd_law : Value} {ct_law : Value} {c_Box : Addr} {p_Box_wish : Addr} {pr_Box_wish : List Value} {p_Box_least : Addr} {pr_Box_least : List Value} {p_Box_most : Addr} {pr_Box_most : List Value} {p_Box_grow : Addr} {pr_Box_grow : List Value} {p_Box_shrink : Addr} {pr_Box_shrink : List Value} {p_Box_own : Addr} {pr_Box_own : List Value} {tk_HEAVIEST : Tok} {tk_WIDEST : Tok}
    (a__law_bag : PySem.W.nsIn K mainGlobals "_law_bag" = some (some (.ref f__law_bag)))
    (l__law_bag : K.lookup f__law_bag = some ⟨oc__law_bag, od__law_bag, .func (PySem.W.fnOf "_law_bag" "_law_bag" (defArgs s__law_bag) (defBody s__law_bag) (defScope s__law_bag) .none kV__law_bag dc__law_bag pm__law_bag an__law_bag cd__law_bag ct__law_bag), sl__law_bag⟩)
    (e__law_bag : PySem.W.codeIn K cd__law_bag "_law_bag" = true)
    (k__law_bag : PySem.W.keepIn K (.ref f__law_bag) = true)
    (a__law_pick : PySem.W.nsIn K mainGlobals "_law_pick" = some (some (.ref f__law_pick)))
    (l__law_pick : K.lookup f__law_pick = some ⟨oc__law_pick, od__law_pick, .func (PySem.W.fnOf "_law_pick" "_law_pick" (defArgs s__law_pick) (defBody s__law_pick) (defScope s__law_pick) .none kV__law_pick dc__law_pick pm__law_pick an__law_pick cd__law_pick ct__law_pick), sl__law_pick⟩)
    (e__law_pick : PySem.W.codeIn K cd__law_pick "_law_pick" = true)
    (k__law_pick : PySem.W.keepIn K (.ref f__law_pick) = true)
    (a__law_numbers : PySem.W.nsIn K mainGlobals "_law_numbers" = some (some (.ref f__law_numbers)))
    (l__law_numbers : K.lookup f__law_numbers = some ⟨oc__law_numbers, od__law_numbers, .func (PySem.W.fnOf "_law_numbers" "_law_numbers" (defArgs s__law_numbers) (defBody s__law_numbers) (defScope s__law_numbers) .none kV__law_numbers dc__law_numbers pm__law_numbers an__law_numbers cd__law_numbers ct__law_numbers), sl__law_numbers⟩)
    (e__law_numbers : PySem.W.codeIn K cd__law_numbers "_law_numbers" = true)
    (k__law_numbers : PySem.W.keepIn K (.ref f__law_numbers) = true)
    (a__law_rows : PySem.W.nsIn K mainGlobals "_law_rows" = some (some (.ref f__law_rows)))
    (l__law_rows : K.lookup f__law_rows = some ⟨oc__law_rows, od__law_rows, .func (PySem.W.fnOf "_law_rows" "_law_rows" (defArgs s__law_rows) (defBody s__law_rows) (defScope s__law_rows) .none kV__law_rows dc__law_rows pm__law_rows an__law_rows cd__law_rows ct__law_rows), sl__law_rows⟩)
    (e__law_rows : PySem.W.codeIn K cd__law_rows "_law_rows" = true)
    (k__law_rows : PySem.W.keepIn K (.ref f__law_rows) = true)
    (a_is_int : PySem.W.nsIn K mainGlobals "is_int" = some (some (.ref f_is_int)))
    (l_is_int : K.lookup f_is_int = some ⟨oc_is_int, od_is_int, .func (PySem.W.fnOf "is_int" "is_int" (defArgs s_is_int) (defBody s_is_int) (defScope s_is_int) .none kV_is_int dc_is_int pm_is_int an_is_int cd_is_int ct_is_int), sl_is_int⟩)
    (e_is_int : PySem.W.codeIn K cd_is_int "is_int" = true)
    (k_is_int : PySem.W.keepIn K (.ref f_is_int) = true)
    (a_in_bounds : PySem.W.nsIn K mainGlobals "in_bounds" = some (some (.ref f_in_bounds)))
    (l_in_bounds : K.lookup f_in_bounds = some ⟨oc_in_bounds, od_in_bounds, .func (PySem.W.fnOf "in_bounds" "in_bounds" (defArgs s_in_bounds) (defBody s_in_bounds) (defScope s_in_bounds) .none kV_in_bounds dc_in_bounds pm_in_bounds an_in_bounds cd_in_bounds ct_in_bounds), sl_in_bounds⟩)
    (e_in_bounds : PySem.W.codeIn K cd_in_bounds "in_bounds" = true)
    (k_in_bounds : PySem.W.keepIn K (.ref f_in_bounds) = true)
    (a_are_box_numbers : PySem.W.nsIn K mainGlobals "are_box_numbers" = some (some (.ref f_are_box_numbers)))
    (l_are_box_numbers : K.lookup f_are_box_numbers = some ⟨oc_are_box_numbers, od_are_box_numbers, .func (PySem.W.fnOf "are_box_numbers" "are_box_numbers" (defArgs s_are_box_numbers) (defBody s_are_box_numbers) (defScope s_are_box_numbers) .none kV_are_box_numbers dc_are_box_numbers pm_are_box_numbers an_are_box_numbers cd_are_box_numbers ct_are_box_numbers), sl_are_box_numbers⟩)
    (e_are_box_numbers : PySem.W.codeIn K cd_are_box_numbers "are_box_numbers" = true)
    (k_are_box_numbers : PySem.W.keepIn K (.ref f_are_box_numbers) = true)
    (a_limited : PySem.W.nsIn K mainGlobals "limited" = some (some (.ref f_limited)))
    (l_limited : K.lookup f_limited = some ⟨oc_limited, od_limited, .func (PySem.W.fnOf "limited" "limited" (defArgs s_limited) (defBody s_limited) (defScope s_limited) .none kV_limited dc_limited pm_limited an_limited cd_limited ct_limited), sl_limited⟩)
    (e_limited : PySem.W.codeIn K cd_limited "limited" = true)
    (k_limited : PySem.W.keepIn K (.ref f_limited) = true)
    (a__law_order : PySem.W.nsIn K mainGlobals "_law_order" = some (some (.ref f__law_order)))
    (l__law_order : K.lookup f__law_order = some ⟨oc__law_order, od__law_order, .func (PySem.W.fnOf "_law_order" "_law_order" (defArgs s__law_order) (defBody s__law_order) (defScope s__law_order) .none kV__law_order dc__law_order pm__law_order an__law_order cd__law_order ct__law_order), sl__law_order⟩)
    (e__law_order : PySem.W.codeIn K cd__law_order "_law_order" = true)
    (k__law_order : PySem.W.keepIn K (.ref f__law_order) = true)
    (a__law_limited : PySem.W.nsIn K mainGlobals "_law_limited" = some (some (.ref f__law_limited)))
    (l__law_limited : K.lookup f__law_limited = some ⟨oc__law_limited, od__law_limited, .func (PySem.W.fnOf "_law_limited" "_law_limited" (defArgs s__law_limited) (defBody s__law_limited) (defScope s__law_limited) .none kV__law_limited dc__law_limited pm__law_limited an__law_limited cd__law_limited ct__law_limited), sl__law_limited⟩)
    (e__law_limited : PySem.W.codeIn K cd__law_limited "_law_limited" = true)
    (k__law_limited : PySem.W.keepIn K (.ref f__law_limited) = true)
    (a__law_own : PySem.W.nsIn K mainGlobals "_law_own" = some (some (.ref f__law_own)))
    (l__law_own : K.lookup f__law_own = some ⟨oc__law_own, od__law_own, .func (PySem.W.fnOf "_law_own" "_law_own" (defArgs s__law_own) (defBody s__law_own) (defScope s__law_own) .none kV__law_own dc__law_own pm__law_own an__law_own cd__law_own ct__law_own), sl__law_own⟩)
    (e__law_own : PySem.W.codeIn K cd__law_own "_law_own" = true)
    (k__law_own : PySem.W.keepIn K (.ref f__law_own) = true)
    (a__law_ratio : PySem.W.nsIn K mainGlobals "_law_ratio" = some (some (.ref f__law_ratio)))
    (l__law_ratio : K.lookup f__law_ratio = some ⟨oc__law_ratio, od__law_ratio, .func (PySem.W.fnOf "_law_ratio" "_law_ratio" (defArgs s__law_ratio) (defBody s__law_ratio) (defScope s__law_ratio) .none kV__law_ratio dc__law_ratio pm__law_ratio an__law_ratio cd__law_ratio ct__law_ratio), sl__law_ratio⟩)
    (e__law_ratio : PySem.W.codeIn K cd__law_ratio "_law_ratio" = true)
    (k__law_ratio : PySem.W.keepIn K (.ref f__law_ratio) = true)
    (a__law_level_list : PySem.W.nsIn K mainGlobals "_law_level_list" = some (some (.ref f__law_level_list)))
    (l__law_level_list : K.lookup f__law_level_list = some ⟨oc__law_level_list, od__law_level_list, .func (PySem.W.fnOf "_law_level_list" "_law_level_list" (defArgs s__law_level_list) (defBody s__law_level_list) (defScope s__law_level_list) .none kV__law_level_list dc__law_level_list pm__law_level_list an__law_level_list cd__law_level_list ct__law_level_list), sl__law_level_list⟩)
    (e__law_level_list : PySem.W.codeIn K cd__law_level_list "_law_level_list" = true)
    (k__law_level_list : PySem.W.keepIn K (.ref f__law_level_list) = true)
    (a_is_fraction : PySem.W.nsIn K mainGlobals "is_fraction" = some (some (.ref f_is_fraction)))
    (l_is_fraction : K.lookup f_is_fraction = some ⟨oc_is_fraction, od_is_fraction, .func (PySem.W.fnOf "is_fraction" "is_fraction" (defArgs s_is_fraction) (defBody s_is_fraction) (defScope s_is_fraction) .none kV_is_fraction dc_is_fraction pm_is_fraction an_is_fraction cd_is_fraction ct_is_fraction), sl_is_fraction⟩)
    (e_is_fraction : PySem.W.codeIn K cd_is_fraction "is_fraction" = true)
    (k_is_fraction : PySem.W.keepIn K (.ref f_is_fraction) = true)
    (a_is_rational : PySem.W.nsIn K mainGlobals "is_rational" = some (some (.ref f_is_rational)))
    (l_is_rational : K.lookup f_is_rational = some ⟨oc_is_rational, od_is_rational, .func (PySem.W.fnOf "is_rational" "is_rational" (defArgs s_is_rational) (defBody s_is_rational) (defScope s_is_rational) .none kV_is_rational dc_is_rational pm_is_rational an_is_rational cd_is_rational ct_is_rational), sl_is_rational⟩)
    (e_is_rational : PySem.W.codeIn K cd_is_rational "is_rational" = true)
    (k_is_rational : PySem.W.keepIn K (.ref f_is_rational) = true)
    (a_lowest : PySem.W.nsIn K mainGlobals "lowest" = some (some (.ref f_lowest)))
    (l_lowest : K.lookup f_lowest = some ⟨oc_lowest, od_lowest, .func (PySem.W.fnOf "lowest" "lowest" (defArgs s_lowest) (defBody s_lowest) (defScope s_lowest) .none kV_lowest dc_lowest pm_lowest an_lowest cd_lowest ct_lowest), sl_lowest⟩)
    (e_lowest : PySem.W.codeIn K cd_lowest "lowest" = true)
    (k_lowest : PySem.W.keepIn K (.ref f_lowest) = true)
    (a_weight_at : PySem.W.nsIn K mainGlobals "weight_at" = some (some (.ref f_weight_at)))
    (l_weight_at : K.lookup f_weight_at = some ⟨oc_weight_at, od_weight_at, .func (PySem.W.fnOf "weight_at" "weight_at" (defArgs s_weight_at) (defBody s_weight_at) (defScope s_weight_at) .none kV_weight_at dc_weight_at pm_weight_at an_weight_at cd_weight_at ct_weight_at), sl_weight_at⟩)
    (e_weight_at : PySem.W.codeIn K cd_weight_at "weight_at" = true)
    (k_weight_at : PySem.W.keepIn K (.ref f_weight_at) = true)
    (a_scaled_size : PySem.W.nsIn K mainGlobals "scaled_size" = some (some (.ref f_scaled_size)))
    (l_scaled_size : K.lookup f_scaled_size = some ⟨oc_scaled_size, od_scaled_size, .func (PySem.W.fnOf "scaled_size" "scaled_size" (defArgs s_scaled_size) (defBody s_scaled_size) (defScope s_scaled_size) .none kV_scaled_size dc_scaled_size pm_scaled_size an_scaled_size cd_scaled_size ct_scaled_size), sl_scaled_size⟩)
    (e_scaled_size : PySem.W.codeIn K cd_scaled_size "scaled_size" = true)
    (k_scaled_size : PySem.W.keepIn K (.ref f_scaled_size) = true)
    (a_size_at : PySem.W.nsIn K mainGlobals "size_at" = some (some (.ref f_size_at)))
    (l_size_at : K.lookup f_size_at = some ⟨oc_size_at, od_size_at, .func (PySem.W.fnOf "size_at" "size_at" (defArgs s_size_at) (defBody s_size_at) (defScope s_size_at) .none kV_size_at dc_size_at pm_size_at an_size_at cd_size_at ct_size_at), sl_size_at⟩)
    (e_size_at : PySem.W.codeIn K cd_size_at "size_at" = true)
    (k_size_at : PySem.W.keepIn K (.ref f_size_at) = true)
    (a_as_fraction : PySem.W.nsIn K mainGlobals "as_fraction" = some (some (.ref f_as_fraction)))
    (l_as_fraction : K.lookup f_as_fraction = some ⟨oc_as_fraction, od_as_fraction, .func (PySem.W.fnOf "as_fraction" "as_fraction" (defArgs s_as_fraction) (defBody s_as_fraction) (defScope s_as_fraction) .none kV_as_fraction dc_as_fraction pm_as_fraction an_as_fraction cd_as_fraction ct_as_fraction), sl_as_fraction⟩)
    (e_as_fraction : PySem.W.codeIn K cd_as_fraction "as_fraction" = true)
    (k_as_fraction : PySem.W.keepIn K (.ref f_as_fraction) = true)
    (a__law_size : PySem.W.nsIn K mainGlobals "_law_size" = some (some (.ref f__law_size)))
    (l__law_size : K.lookup f__law_size = some ⟨oc__law_size, od__law_size, .func (PySem.W.fnOf "_law_size" "_law_size" (defArgs s__law_size) (defBody s__law_size) (defScope s__law_size) .none kV__law_size dc__law_size pm__law_size an__law_size cd__law_size ct__law_size), sl__law_size⟩)
    (e__law_size : PySem.W.codeIn K cd__law_size "_law_size" = true)
    (k__law_size : PySem.W.keepIn K (.ref f__law_size) = true)
    (a__law_box_right : PySem.W.nsIn K mainGlobals "_law_box_right" = some (some (.ref f__law_box_right)))
    (l__law_box_right : K.lookup f__law_box_right = some ⟨oc__law_box_right, od__law_box_right, .func (PySem.W.fnOf "_law_box_right" "_law_box_right" (defArgs s__law_box_right) (defBody s__law_box_right) (defScope s__law_box_right) .none kV__law_box_right dc__law_box_right pm__law_box_right an__law_box_right cd__law_box_right ct__law_box_right), sl__law_box_right⟩)
    (e__law_box_right : PySem.W.codeIn K cd__law_box_right "_law_box_right" = true)
    (k__law_box_right : PySem.W.keepIn K (.ref f__law_box_right) = true)
    (a_law : PySem.W.nsIn K mainGlobals "law" = some (some (.ref f_law)))
    (l_law : K.lookup f_law = some ⟨oc_law, od_law, .func (PySem.W.fnOf "law" "law" (defArgs s_law) (defBody s_law) (defScope s_law) .none kV_law dc_law pm_law an_law cd_law ct_law), sl_law⟩)
    (e_law : PySem.W.codeIn K cd_law "law" = true)
    (k_law : PySem.W.keepIn K (.ref f_law) = true)
    (a_Box : PySem.W.nsIn K mainGlobals "Box" = some (some (.ref c_Box)))
    (pg_Box : PySem.W.plainGet K c_Box Str.empty = true)
    (hd_Box : PySem.W.hasDictIn K c_Box = true)
    (po_Box : PySem.W.plainOver K c_Box = true)
    (sa_Box : PySem.W.findIn K (.ref c_Box) "__setattr__" = some (some (.builtin "object.__setattr__")))
    (no_Box__wish : PySem.W.findIn K (.ref c_Box) "_wish" = some none)
    (no_Box__least : PySem.W.findIn K (.ref c_Box) "_least" = some none)
    (no_Box__most : PySem.W.findIn K (.ref c_Box) "_most" = some none)
    (no_Box__grow : PySem.W.findIn K (.ref c_Box) "_grow" = some none)
    (no_Box__shrink : PySem.W.findIn K (.ref c_Box) "_shrink" = some none)
    (at_Box_d_init_d : PySem.W.findIn K (.ref c_Box) "__init__" = some (some (.ref f_Box_d_init_d)))
    (fn_Box_d_init_d : PySem.W.isFn K (.ref f_Box_d_init_d) = true)
    (mk_Box : PySem.W.makesIn K c_Box = true)
    (kc_Box : PySem.W.keepIn K (.ref c_Box) = true)
    (pa_Box_wish : PySem.W.findIn K (.ref c_Box) "wish" = some (some (.ref p_Box_wish)))
    (pb_Box_wish : PySem.W.specialIn K (.ref p_Box_wish) "__get__" = some (some (.builtin "property.__get__")))
    (pc_Box_wish : PySem.W.takesIn K (.ref p_Box_wish) = some true)
    (pd_Box_wish : PySem.W.recIn K p_Box_wish "property" = some (.ref f_Box_wish :: pr_Box_wish))
    (pa_Box_least : PySem.W.findIn K (.ref c_Box) "least" = some (some (.ref p_Box_least)))
    (pb_Box_least : PySem.W.specialIn K (.ref p_Box_least) "__get__" = some (some (.builtin "property.__get__")))
    (pc_Box_least : PySem.W.takesIn K (.ref p_Box_least) = some true)
    (pd_Box_least : PySem.W.recIn K p_Box_least "property" = some (.ref f_Box_least :: pr_Box_least))
    (pa_Box_most : PySem.W.findIn K (.ref c_Box) "most" = some (some (.ref p_Box_most)))
    (pb_Box_most : PySem.W.specialIn K (.ref p_Box_most) "__get__" = some (some (.builtin "property.__get__")))
    (pc_Box_most : PySem.W.takesIn K (.ref p_Box_most) = some true)
    (pd_Box_most : PySem.W.recIn K p_Box_most "property" = some (.ref f_Box_most :: pr_Box_most))
    (pa_Box_grow : PySem.W.findIn K (.ref c_Box) "grow" = some (some (.ref p_Box_grow)))
    (pb_Box_grow : PySem.W.specialIn K (.ref p_Box_grow) "__get__" = some (some (.builtin "property.__get__")))
    (pc_Box_grow : PySem.W.takesIn K (.ref p_Box_grow) = some true)
    (pd_Box_grow : PySem.W.recIn K p_Box_grow "property" = some (.ref f_Box_grow :: pr_Box_grow))
    (pa_Box_shrink : PySem.W.findIn K (.ref c_Box) "shrink" = some (some (.ref p_Box_shrink)))
    (pb_Box_shrink : PySem.W.specialIn K (.ref p_Box_shrink) "__get__" = some (some (.builtin "property.__get__")))
    (pc_Box_shrink : PySem.W.takesIn K (.ref p_Box_shrink) = some true)
    (pd_Box_shrink : PySem.W.recIn K p_Box_shrink "property" = some (.ref f_Box_shrink :: pr_Box_shrink))
    (pa_Box_own : PySem.W.findIn K (.ref c_Box) "own" = some (some (.ref p_Box_own)))
    (pb_Box_own : PySem.W.specialIn K (.ref p_Box_own) "__get__" = some (some (.builtin "property.__get__")))
    (pc_Box_own : PySem.W.takesIn K (.ref p_Box_own) = some true)
    (pd_Box_own : PySem.W.recIn K p_Box_own "property" = some (.ref f_Box_own :: pr_Box_own))
    (at_Box_d_call_d : PySem.W.findIn K (.ref c_Box) "__call__" = some (some (.ref f_Box_d_call_d)))
    (fn_Box_d_call_d : PySem.W.isFn K (.ref f_Box_d_call_d) = true)
    (fi_Box_d_call_d : PySem.W.fnIn K f_Box_d_call_d = true)
    (ia_Box : PySem.W.findIn K (.ref c_Box) "__class__" = some (some (.builtin "object.__class__")))
    (ib_Box : PySem.W.specialIn K (.builtin "object.__class__") "__get__" = some (some (.builtin "getset_descriptor.__get__")))
    (ic_Box : PySem.W.takesIn K (.builtin "object.__class__") = some true)
    (id_Box : PySem.W.mroIn K c_Box (.type "object") = some true)
    (at_Box_d_eq_d : PySem.W.findIn K (.ref c_Box) "__eq__" = some (some (.ref f_Box_d_eq_d)))
    (fn_Box_d_eq_d : PySem.W.isFn K (.ref f_Box_d_eq_d) = true)
    (nf_Box_NoneType : PySem.W.notFirst K c_Box (.type "NoneType") = true)
    (nf_Box_bool : PySem.W.notFirst K c_Box (.type "bool") = true)
    (nf_Box_int : PySem.W.notFirst K c_Box (.type "int") = true)
    (nf_Box_str : PySem.W.notFirst K c_Box (.type "str") = true)
    (nf_Box_tuple : PySem.W.notFirst K c_Box (.type "tuple") = true)
    (nf_Box_list : PySem.W.notFirst K c_Box (.type "list") = true)
    (nc_Box : PySem.W.isClsIn K c_Box = true)
    (nt_Box : PySem.W.typeIn K (.ref c_Box) = some (.type "type"))
    (x_HEAVIEST : PySem.W.nsIn K mainGlobals "HEAVIEST" = some (some (.int 1000000 tk_HEAVIEST)))
    (x_WIDEST : PySem.W.nsIn K mainGlobals "WIDEST" = some (some (.int 1000000000000000000000000000000 tk_WIDEST)))
    (x_abs : PySem.W.nsIn K mainGlobals "abs" = some none)
    (x_all : PySem.W.nsIn K mainGlobals "all" = some none)
    (x_bool : PySem.W.nsIn K mainGlobals "bool" = some none)
    (x_gcd : PySem.W.nsIn K mainGlobals "gcd" = some (some (.builtin "math.gcd")))
    (x_int : PySem.W.nsIn K mainGlobals "int" = some none)
    (x_isinstance : PySem.W.nsIn K mainGlobals "isinstance" = some none)
    (x_len : PySem.W.nsIn K mainGlobals "len" = some none)
    (x_list : PySem.W.nsIn K mainGlobals "list" = some none)
    (x_max : PySem.W.nsIn K mainGlobals "max" = some none)
    (x_min : PySem.W.nsIn K mainGlobals "min" = some none)
    (x_range : PySem.W.nsIn K mainGlobals "range" = some none)
    (x_repr : PySem.W.nsIn K mainGlobals "repr" = some none)
    (x_tuple : PySem.W.nsIn K mainGlobals "tuple" = some none)
    (l_Box_d_init_d : K.lookup f_Box_d_init_d = some ⟨oc_Box_d_init_d, od_Box_d_init_d, .func (PySem.W.fnOf "__init__" "Box.__init__" (defArgs s_Box_d_init_d) (defBody s_Box_d_init_d) (defScope s_Box_d_init_d) (.ref T_Box_d_init_d) kV_Box_d_init_d dc_Box_d_init_d pm_Box_d_init_d an_Box_d_init_d cd_Box_d_init_d ct_Box_d_init_d), sl_Box_d_init_d⟩)
    (e_Box_d_init_d : PySem.W.codeIn K cd_Box_d_init_d "Box.__init__" = true)
    (k_Box_d_init_d : PySem.W.keepIn K (.ref f_Box_d_init_d) = true)
    (T1_Box_d_init_d : K.lookup T_Box_d_init_d = some ⟨Tc_Box_d_init_d, Td_Box_d_init_d, .seq [.int 0 t0_Box_d_init_d, .none, .int 0 t2_Box_d_init_d, .int 0 t3_Box_d_init_d].toArray Tn_Box_d_init_d, Ts_Box_d_init_d⟩)
    (l_Box_wish : K.lookup f_Box_wish = some ⟨oc_Box_wish, od_Box_wish, .func (PySem.W.fnOf "wish" "Box.wish" (defArgs s_Box_wish) (defBody s_Box_wish) (defScope s_Box_wish) .none kV_Box_wish dc_Box_wish pm_Box_wish an_Box_wish cd_Box_wish ct_Box_wish), sl_Box_wish⟩)
    (e_Box_wish : PySem.W.codeIn K cd_Box_wish "Box.wish" = true)
    (k_Box_wish : PySem.W.keepIn K (.ref f_Box_wish) = true)
    (l_Box_least : K.lookup f_Box_least = some ⟨oc_Box_least, od_Box_least, .func (PySem.W.fnOf "least" "Box.least" (defArgs s_Box_least) (defBody s_Box_least) (defScope s_Box_least) .none kV_Box_least dc_Box_least pm_Box_least an_Box_least cd_Box_least ct_Box_least), sl_Box_least⟩)
    (e_Box_least : PySem.W.codeIn K cd_Box_least "Box.least" = true)
    (k_Box_least : PySem.W.keepIn K (.ref f_Box_least) = true)
    (l_Box_most : K.lookup f_Box_most = some ⟨oc_Box_most, od_Box_most, .func (PySem.W.fnOf "most" "Box.most" (defArgs s_Box_most) (defBody s_Box_most) (defScope s_Box_most) .none kV_Box_most dc_Box_most pm_Box_most an_Box_most cd_Box_most ct_Box_most), sl_Box_most⟩)
    (e_Box_most : PySem.W.codeIn K cd_Box_most "Box.most" = true)
    (k_Box_most : PySem.W.keepIn K (.ref f_Box_most) = true)
    (l_Box_grow : K.lookup f_Box_grow = some ⟨oc_Box_grow, od_Box_grow, .func (PySem.W.fnOf "grow" "Box.grow" (defArgs s_Box_grow) (defBody s_Box_grow) (defScope s_Box_grow) .none kV_Box_grow dc_Box_grow pm_Box_grow an_Box_grow cd_Box_grow ct_Box_grow), sl_Box_grow⟩)
    (e_Box_grow : PySem.W.codeIn K cd_Box_grow "Box.grow" = true)
    (k_Box_grow : PySem.W.keepIn K (.ref f_Box_grow) = true)
    (l_Box_shrink : K.lookup f_Box_shrink = some ⟨oc_Box_shrink, od_Box_shrink, .func (PySem.W.fnOf "shrink" "Box.shrink" (defArgs s_Box_shrink) (defBody s_Box_shrink) (defScope s_Box_shrink) .none kV_Box_shrink dc_Box_shrink pm_Box_shrink an_Box_shrink cd_Box_shrink ct_Box_shrink), sl_Box_shrink⟩)
    (e_Box_shrink : PySem.W.codeIn K cd_Box_shrink "Box.shrink" = true)
    (k_Box_shrink : PySem.W.keepIn K (.ref f_Box_shrink) = true)
    (l_Box_own : K.lookup f_Box_own = some ⟨oc_Box_own, od_Box_own, .func (PySem.W.fnOf "own" "Box.own" (defArgs s_Box_own) (defBody s_Box_own) (defScope s_Box_own) .none kV_Box_own dc_Box_own pm_Box_own an_Box_own cd_Box_own ct_Box_own), sl_Box_own⟩)
    (e_Box_own : PySem.W.codeIn K cd_Box_own "Box.own" = true)
    (k_Box_own : PySem.W.keepIn K (.ref f_Box_own) = true)
    (l_Box_d_call_d : K.lookup f_Box_d_call_d = some ⟨oc_Box_d_call_d, od_Box_d_call_d, .func (PySem.W.fnOf "__call__" "Box.__call__" (defArgs s_Box_d_call_d) (defBody s_Box_d_call_d) (defScope s_Box_d_call_d) .none kV_Box_d_call_d dc_Box_d_call_d pm_Box_d_call_d an_Box_d_call_d cd_Box_d_call_d ct_Box_d_call_d), sl_Box_d_call_d⟩)
    (e_Box_d_call_d : PySem.W.codeIn K cd_Box_d_call_d "Box.__call__" = true)
    (k_Box_d_call_d : PySem.W.keepIn K (.ref f_Box_d_call_d) = true)
    (l_Box_d_eq_d : K.lookup f_Box_d_eq_d = some ⟨oc_Box_d_eq_d, od_Box_d_eq_d, .func (PySem.W.fnOf "__eq__" "Box.__eq__" (defArgs s_Box_d_eq_d) (defBody s_Box_d_eq_d) (defScope s_Box_d_eq_d) .none kV_Box_d_eq_d dc_Box_d_eq_d pm_Box_d_eq_d an_Box_d_eq_d cd_Box_d_eq_d ct_Box_d_eq_d), sl_Box_d_eq_d⟩)
    (e_Box_d_eq_d : PySem.W.codeIn K cd_Box_d_eq_d "Box.__eq__" = true)
    (k_Box_d_eq_d : PySem.W.keepIn K (.ref f_Box_d_eq_d) = true)
    (hmain : ∀ q : Ad, Tx K mg q → ∀ ns : List Int, ns.length ≤ 63 → W_law K (CIof q) [.scr ns] [] fun d _ => d = .bl true) :
    ∃ (fd : FuncData) (C : CI) (W : ZRC), (∀ (s : Shared) (u : Value), BindsTo s fd ⟨[u], []⟩ [("script", u)]) ∧ (∀ base : Heap, K.In base → base.Ns mainGlobals mg → FnG l.prog w K mg base 8 fa fd ["script"] (SpZ K C W)) ∧
      ∀ ns : List Int, ns.length ≤ 63 → W [.scr ns] [] fun d _ => d = .bl true := by
  have e : f_law = fa := by
    have q := (PySem.W.mg_of X G a_law).symm.trans hfa
    cases q
    rfl
  subst e
  let q : Ad := { f__law_bag := f__law_bag, d__law_bag := (PySem.W.fnOf "_law_bag" "_law_bag" (defArgs s__law_bag) (defBody s__law_bag) (defScope s__law_bag) .none kV__law_bag dc__law_bag pm__law_bag an__law_bag cd__law_bag ct__law_bag), f__law_pick := f__law_pick, d__law_pick := (PySem.W.fnOf "_law_pick" "_law_pick" (defArgs s__law_pick) (defBody s__law_pick) (defScope s__law_pick) .none kV__law_pick dc__law_pick pm__law_pick an__law_pick cd__law_pick ct__law_pick), f__law_numbers := f__law_numbers, d__law_numbers := (PySem.W.fnOf "_law_numbers" "_law_numbers" (defArgs s__law_numbers) (defBody s__law_numbers) (defScope s__law_numbers) .none kV__law_numbers dc__law_numbers pm__law_numbers an__law_numbers cd__law_numbers ct__law_numbers), f__law_rows := f__law_rows, d__law_rows := (PySem.W.fnOf "_law_rows" "_law_rows" (defArgs s__law_rows) (defBody s__law_rows) (defScope s__law_rows) .none kV__law_rows dc__law_rows pm__law_rows an__law_rows cd__law_rows ct__law_rows), f_is_int := f_is_int, d_is_int := (PySem.W.fnOf "is_int" "is_int" (defArgs s_is_int) (defBody s_is_int) (defScope s_is_int) .none kV_is_int dc_is_int pm_is_int an_is_int cd_is_int ct_is_int), f_in_bounds := f_in_bounds, d_in_bounds := (PySem.W.fnOf "in_bounds" "in_bounds" (defArgs s_in_bounds) (defBody s_in_bounds) (defScope s_in_bounds) .none kV_in_bounds dc_in_bounds pm_in_bounds an_in_bounds cd_in_bounds ct_in_bounds), f_are_box_numbers := f_are_box_numbers, d_are_box_numbers := (PySem.W.fnOf "are_box_numbers" "are_box_numbers" (defArgs s_are_box_numbers) (defBody s_are_box_numbers) (defScope s_are_box_numbers) .none kV_are_box_numbers dc_are_box_numbers pm_are_box_numbers an_are_box_numbers cd_are_box_numbers ct_are_box_numbers), f_Box_d_init_d := f_Box_d_init_d, d_Box_d_init_d := (PySem.W.fnOf "__init__" "Box.__init__" (defArgs s_Box_d_init_d) (defBody s_Box_d_init_d) (defScope s_Box_d_init_d) (.ref T_Box_d_init_d) kV_Box_d_init_d dc_Box_d_init_d pm_Box_d_init_d an_Box_d_init_d cd_Box_d_init_d ct_Box_d_init_d), f_Box_wish := f_Box_wish, d_Box_wish := (PySem.W.fnOf "wish" "Box.wish" (defArgs s_Box_wish) (defBody s_Box_wish) (defScope s_Box_wish) .none kV_Box_wish dc_Box_wish pm_Box_wish an_Box_wish cd_Box_wish ct_Box_wish), f_Box_least := f_Box_least, d_Box_least := (PySem.W.fnOf "least" "Box.least" (defArgs s_Box_least) (defBody s_Box_least) (defScope s_Box_least) .none kV_Box_least dc_Box_least pm_Box_least an_Box_least cd_Box_least ct_Box_least), f_Box_most := f_Box_most, d_Box_most := (PySem.W.fnOf "most" "Box.most" (defArgs s_Box_most) (defBody s_Box_most) (defScope s_Box_most) .none kV_Box_most dc_Box_most pm_Box_most an_Box_most cd_Box_most ct_Box_most), f_Box_grow := f_Box_grow, d_Box_grow := (PySem.W.fnOf "grow" "Box.grow" (defArgs s_Box_grow) (defBody s_Box_grow) (defScope s_Box_grow) .none kV_Box_grow dc_Box_grow pm_Box_grow an_Box_grow cd_Box_grow ct_Box_grow), f_Box_shrink := f_Box_shrink, d_Box_shrink := (PySem.W.fnOf "shrink" "Box.shrink" (defArgs s_Box_shrink) (defBody s_Box_shrink) (defScope s_Box_shrink) .none kV_Box_shrink dc_Box_shrink pm_Box_shrink an_Box_shrink cd_Box_shrink ct_Box_shrink), f_limited := f_limited, d_limited := (PySem.W.fnOf "limited" "limited" (defArgs s_limited) (defBody s_limited) (defScope s_limited) .none kV_limited dc_limited pm_limited an_limited cd_limited ct_limited), f_Box_own := f_Box_own, d_Box_own := (PySem.W.fnOf "own" "Box.own" (defArgs s_Box_own) (defBody s_Box_own) (defScope s_Box_own) .none kV_Box_own dc_Box_own pm_Box_own an_Box_own cd_Box_own ct_Box_own), f__law_order := f__law_order, d__law_order := (PySem.W.fnOf "_law_order" "_law_order" (defArgs s__law_order) (defBody s__law_order) (defScope s__law_order) .none kV__law_order dc__law_order pm__law_order an__law_order cd__law_order ct__law_order), f__law_limited := f__law_limited, d__law_limited := (PySem.W.fnOf "_law_limited" "_law_limited" (defArgs s__law_limited) (defBody s__law_limited) (defScope s__law_limited) .none kV__law_limited dc__law_limited pm__law_limited an__law_limited cd__law_limited ct__law_limited), f__law_own := f__law_own, d__law_own := (PySem.W.fnOf "_law_own" "_law_own" (defArgs s__law_own) (defBody s__law_own) (defScope s__law_own) .none kV__law_own dc__law_own pm__law_own an__law_own cd__law_own ct__law_own), f__law_ratio := f__law_ratio, d__law_ratio := (PySem.W.fnOf "_law_ratio" "_law_ratio" (defArgs s__law_ratio) (defBody s__law_ratio) (defScope s__law_ratio) .none kV__law_ratio dc__law_ratio pm__law_ratio an__law_ratio cd__law_ratio ct__law_ratio), f__law_level_list := f__law_level_list, d__law_level_list := (PySem.W.fnOf "_law_level_list" "_law_level_list" (defArgs s__law_level_list) (defBody s__law_level_list) (defScope s__law_level_list) .none kV__law_level_list dc__law_level_list pm__law_level_list an__law_level_list cd__law_level_list ct__law_level_list), f_is_fraction := f_is_fraction, d_is_fraction := (PySem.W.fnOf "is_fraction" "is_fraction" (defArgs s_is_fraction) (defBody s_is_fraction) (defScope s_is_fraction) .none kV_is_fraction dc_is_fraction pm_is_fraction an_is_fraction cd_is_fraction ct_is_fraction), f_is_rational := f_is_rational, d_is_rational := (PySem.W.fnOf "is_rational" "is_rational" (defArgs s_is_rational) (defBody s_is_rational) (defScope s_is_rational) .none kV_is_rational dc_is_rational pm_is_rational an_is_rational cd_is_rational ct_is_rational), f_lowest := f_lowest, d_lowest := (PySem.W.fnOf "lowest" "lowest" (defArgs s_lowest) (defBody s_lowest) (defScope s_lowest) .none kV_lowest dc_lowest pm_lowest an_lowest cd_lowest ct_lowest), f_weight_at := f_weight_at, d_weight_at := (PySem.W.fnOf "weight_at" "weight_at" (defArgs s_weight_at) (defBody s_weight_at) (defScope s_weight_at) .none kV_weight_at dc_weight_at pm_weight_at an_weight_at cd_weight_at ct_weight_at), f_scaled_size := f_scaled_size, d_scaled_size := (PySem.W.fnOf "scaled_size" "scaled_size" (defArgs s_scaled_size) (defBody s_scaled_size) (defScope s_scaled_size) .none kV_scaled_size dc_scaled_size pm_scaled_size an_scaled_size cd_scaled_size ct_scaled_size), f_size_at := f_size_at, d_size_at := (PySem.W.fnOf "size_at" "size_at" (defArgs s_size_at) (defBody s_size_at) (defScope s_size_at) .none kV_size_at dc_size_at pm_size_at an_size_at cd_size_at ct_size_at), f_as_fraction := f_as_fraction, d_as_fraction := (PySem.W.fnOf "as_fraction" "as_fraction" (defArgs s_as_fraction) (defBody s_as_fraction) (defScope s_as_fraction) .none kV_as_fraction dc_as_fraction pm_as_fraction an_as_fraction cd_as_fraction ct_as_fraction), f_Box_d_call_d := f_Box_d_call_d, d_Box_d_call_d := (PySem.W.fnOf "__call__" "Box.__call__" (defArgs s_Box_d_call_d) (defBody s_Box_d_call_d) (defScope s_Box_d_call_d) .none kV_Box_d_call_d dc_Box_d_call_d pm_Box_d_call_d an_Box_d_call_d cd_Box_d_call_d ct_Box_d_call_d), f__law_size := f__law_size, d__law_size := (PySem.W.fnOf "_law_size" "_law_size" (defArgs s__law_size) (defBody s__law_size) (defScope s__law_size) .none kV__law_size dc__law_size pm__law_size an__law_size cd__law_size ct__law_size), f_Box_d_eq_d := f_Box_d_eq_d, d_Box_d_eq_d := (PySem.W.fnOf "__eq__" "Box.__eq__" (defArgs s_Box_d_eq_d) (defBody s_Box_d_eq_d) (defScope s_Box_d_eq_d) .none kV_Box_d_eq_d dc_Box_d_eq_d pm_Box_d_eq_d an_Box_d_eq_d cd_Box_d_eq_d ct_Box_d_eq_d), f__law_box_right := f__law_box_right, d__law_box_right := (PySem.W.fnOf "_law_box_right" "_law_box_right" (defArgs s__law_box_right) (defBody s__law_box_right) (defScope s__law_box_right) .none kV__law_box_right dc__law_box_right pm__law_box_right an__law_box_right cd__law_box_right ct__law_box_right), f_law := f_law, d_law := (PySem.W.fnOf "law" "law" (defArgs s_law) (defBody s_law) (defScope s_law) .none kV_law dc_law pm_law an_law cd_law ct_law), c_Box := c_Box, p_Box_wish := p_Box_wish, p_Box_least := p_Box_least, p_Box_most := p_Box_most, p_Box_grow := p_Box_grow, p_Box_shrink := p_Box_shrink, p_Box_own := p_Box_own }
  have T : Tx K mg q := {
    F__law_bag := (fun_mk (st := s__law_bag) l__law_bag e__law_bag k__law_bag)
    b__law_bag := ((fun_mk (st := s__law_bag) l__law_bag e__law_bag k__law_bag).binds (ps := ["cell"]) fun _ _ _ _ _ _ us hl => match us, hl with | [_], _ => rfl)
    m__law_bag := (PySem.W.mg_of X G a__law_bag)
    F__law_pick := (fun_mk (st := s__law_pick) l__law_pick e__law_pick k__law_pick)
    b__law_pick := ((fun_mk (st := s__law_pick) l__law_pick e__law_pick k__law_pick).binds (ps := ["bag", "many"]) fun _ _ _ _ _ _ us hl => match us, hl with | [_, _], _ => rfl)
    m__law_pick := (PySem.W.mg_of X G a__law_pick)
    F__law_numbers := (fun_mk (st := s__law_numbers) l__law_numbers e__law_numbers k__law_numbers)
    b__law_numbers := ((fun_mk (st := s__law_numbers) l__law_numbers e__law_numbers k__law_numbers).binds (ps := ["bag", "wide", "heavy"]) fun _ _ _ _ _ _ us hl => match us, hl with | [_, _, _], _ => rfl)
    m__law_numbers := (PySem.W.mg_of X G a__law_numbers)
    F__law_rows := (fun_mk (st := s__law_rows) l__law_rows e__law_rows k__law_rows)
    b__law_rows := ((fun_mk (st := s__law_rows) l__law_rows e__law_rows k__law_rows).binds (ps := ["bag", "count"]) fun _ _ _ _ _ _ us hl => match us, hl with | [_, _], _ => rfl)
    m__law_rows := (PySem.W.mg_of X G a__law_rows)
    F_is_int := (fun_mk (st := s_is_int) l_is_int e_is_int k_is_int)
    b_is_int := ((fun_mk (st := s_is_int) l_is_int e_is_int k_is_int).binds (ps := ["value"]) fun _ _ _ _ _ _ us hl => match us, hl with | [_], _ => rfl)
    m_is_int := (PySem.W.mg_of X G a_is_int)
    F_in_bounds := (fun_mk (st := s_in_bounds) l_in_bounds e_in_bounds k_in_bounds)
    b_in_bounds := ((fun_mk (st := s_in_bounds) l_in_bounds e_in_bounds k_in_bounds).binds (ps := ["value", "top"]) fun _ _ _ _ _ _ us hl => match us, hl with | [_, _], _ => rfl)
    m_in_bounds := (PySem.W.mg_of X G a_in_bounds)
    F_are_box_numbers := (fun_mk (st := s_are_box_numbers) l_are_box_numbers e_are_box_numbers k_are_box_numbers)
    b_are_box_numbers := ((fun_mk (st := s_are_box_numbers) l_are_box_numbers e_are_box_numbers k_are_box_numbers).binds (ps := ["wish", "least", "most", "grow", "shrink"]) fun _ _ _ _ _ _ us hl => match us, hl with | [_, _, _, _, _], _ => rfl)
    m_are_box_numbers := (PySem.W.mg_of X G a_are_box_numbers)
    F_Box_d_init_d := (Z.FunD.z (show FunD K "__init__" "Box.__init__" (defArgs s_Box_d_init_d) (defBody s_Box_d_init_d) (defScope s_Box_d_init_d) [V.int 0, V.non, V.int 0, V.int 0] [] f_Box_d_init_d (PySem.W.fnOf "__init__" "Box.__init__" (defArgs s_Box_d_init_d) (defBody s_Box_d_init_d) (defScope s_Box_d_init_d) (.ref T_Box_d_init_d) kV_Box_d_init_d dc_Box_d_init_d pm_Box_d_init_d an_Box_d_init_d cd_Box_d_init_d ct_Box_d_init_d) from ⟨⟨_, _, _, _, _, _, _, _, _, _, rfl, l_Box_d_init_d, e_Box_d_init_d, .inr ⟨by simp, _, _, _, _, rfl, T1_Box_d_init_d, rfl, .cons ⟨_, rfl⟩ (.cons rfl (.cons ⟨_, rfl⟩ (.cons ⟨_, rfl⟩ (.nil))))⟩, .inl rfl⟩, k_Box_d_init_d⟩))
    b_Box_d_init_d := (by obtain ⟨ds, h1, h2⟩ := (FunD.binds1 (ps := ["self", "wish", "least", "most", "grow", "shrink"]) (show FunD K "__init__" "Box.__init__" (defArgs s_Box_d_init_d) (defBody s_Box_d_init_d) (defScope s_Box_d_init_d) [V.int 0, V.non, V.int 0, V.int 0] [] f_Box_d_init_d (PySem.W.fnOf "__init__" "Box.__init__" (defArgs s_Box_d_init_d) (defBody s_Box_d_init_d) (defScope s_Box_d_init_d) (.ref T_Box_d_init_d) kV_Box_d_init_d dc_Box_d_init_d pm_Box_d_init_d an_Box_d_init_d cd_Box_d_init_d ct_Box_d_init_d) from ⟨⟨_, _, _, _, _, _, _, _, _, _, rfl, l_Box_d_init_d, e_Box_d_init_d, .inr ⟨by simp, _, _, _, _, rfl, T1_Box_d_init_d, rfl, .cons ⟨_, rfl⟩ (.cons rfl (.cons ⟨_, rfl⟩ (.cons ⟨_, rfl⟩ (.nil))))⟩, .inl rfl⟩, k_Box_d_init_d⟩) 6 4 (by simp) rfl fun _ _ _ _ _ _ _ us its hu hi => match us, hu, its, hi with | [_, _, _, _, _, _], _, [_, _, _, _], _ => ⟨_, rfl, rfl⟩); cases h1; exact h2)
    F_Box_wish := (fun_mk (st := s_Box_wish) l_Box_wish e_Box_wish k_Box_wish)
    b_Box_wish := ((fun_mk (st := s_Box_wish) l_Box_wish e_Box_wish k_Box_wish).binds (ps := ["self"]) fun _ _ _ _ _ _ us hl => match us, hl with | [_], _ => rfl)
    F_Box_least := (fun_mk (st := s_Box_least) l_Box_least e_Box_least k_Box_least)
    b_Box_least := ((fun_mk (st := s_Box_least) l_Box_least e_Box_least k_Box_least).binds (ps := ["self"]) fun _ _ _ _ _ _ us hl => match us, hl with | [_], _ => rfl)
    F_Box_most := (fun_mk (st := s_Box_most) l_Box_most e_Box_most k_Box_most)
    b_Box_most := ((fun_mk (st := s_Box_most) l_Box_most e_Box_most k_Box_most).binds (ps := ["self"]) fun _ _ _ _ _ _ us hl => match us, hl with | [_], _ => rfl)
    F_Box_grow := (fun_mk (st := s_Box_grow) l_Box_grow e_Box_grow k_Box_grow)
    b_Box_grow := ((fun_mk (st := s_Box_grow) l_Box_grow e_Box_grow k_Box_grow).binds (ps := ["self"]) fun _ _ _ _ _ _ us hl => match us, hl with | [_], _ => rfl)
    F_Box_shrink := (fun_mk (st := s_Box_shrink) l_Box_shrink e_Box_shrink k_Box_shrink)
    b_Box_shrink := ((fun_mk (st := s_Box_shrink) l_Box_shrink e_Box_shrink k_Box_shrink).binds (ps := ["self"]) fun _ _ _ _ _ _ us hl => match us, hl with | [_], _ => rfl)
    F_limited := (fun_mk (st := s_limited) l_limited e_limited k_limited)
    b_limited := ((fun_mk (st := s_limited) l_limited e_limited k_limited).binds (ps := ["value", "least", "most"]) fun _ _ _ _ _ _ us hl => match us, hl with | [_, _, _], _ => rfl)
    m_limited := (PySem.W.mg_of X G a_limited)
    F_Box_own := (fun_mk (st := s_Box_own) l_Box_own e_Box_own k_Box_own)
    b_Box_own := ((fun_mk (st := s_Box_own) l_Box_own e_Box_own k_Box_own).binds (ps := ["self"]) fun _ _ _ _ _ _ us hl => match us, hl with | [_], _ => rfl)
    F__law_order := (fun_mk (st := s__law_order) l__law_order e__law_order k__law_order)
    b__law_order := ((fun_mk (st := s__law_order) l__law_order e__law_order k__law_order).binds (ps := ["one", "two"]) fun _ _ _ _ _ _ us hl => match us, hl with | [_, _], _ => rfl)
    m__law_order := (PySem.W.mg_of X G a__law_order)
    F__law_limited := (fun_mk (st := s__law_limited) l__law_limited e__law_limited k__law_limited)
    b__law_limited := ((fun_mk (st := s__law_limited) l__law_limited e__law_limited k__law_limited).binds (ps := ["number", "row"]) fun _ _ _ _ _ _ us hl => match us, hl with | [_, _], _ => rfl)
    m__law_limited := (PySem.W.mg_of X G a__law_limited)
    F__law_own := (fun_mk (st := s__law_own) l__law_own e__law_own k__law_own)
    b__law_own := ((fun_mk (st := s__law_own) l__law_own e__law_own k__law_own).binds (ps := ["row"]) fun _ _ _ _ _ _ us hl => match us, hl with | [_], _ => rfl)
    m__law_own := (PySem.W.mg_of X G a__law_own)
    F__law_ratio := (fun_mk (st := s__law_ratio) l__law_ratio e__law_ratio k__law_ratio)
    b__law_ratio := ((fun_mk (st := s__law_ratio) l__law_ratio e__law_ratio k__law_ratio).binds (ps := ["above", "below"]) fun _ _ _ _ _ _ us hl => match us, hl with | [_, _], _ => rfl)
    m__law_ratio := (PySem.W.mg_of X G a__law_ratio)
    F__law_level_list := (fun_mk (st := s__law_level_list) l__law_level_list e__law_level_list k__law_level_list)
    b__law_level_list := ((fun_mk (st := s__law_level_list) l__law_level_list e__law_level_list k__law_level_list).binds (ps := ["bag", "row"]) fun _ _ _ _ _ _ us hl => match us, hl with | [_, _], _ => rfl)
    m__law_level_list := (PySem.W.mg_of X G a__law_level_list)
    F_is_fraction := (fun_mk (st := s_is_fraction) l_is_fraction e_is_fraction k_is_fraction)
    b_is_fraction := ((fun_mk (st := s_is_fraction) l_is_fraction e_is_fraction k_is_fraction).binds (ps := ["value"]) fun _ _ _ _ _ _ us hl => match us, hl with | [_], _ => rfl)
    m_is_fraction := (PySem.W.mg_of X G a_is_fraction)
    F_is_rational := (fun_mk (st := s_is_rational) l_is_rational e_is_rational k_is_rational)
    b_is_rational := ((fun_mk (st := s_is_rational) l_is_rational e_is_rational k_is_rational).binds (ps := ["value"]) fun _ _ _ _ _ _ us hl => match us, hl with | [_], _ => rfl)
    m_is_rational := (PySem.W.mg_of X G a_is_rational)
    F_lowest := (fun_mk (st := s_lowest) l_lowest e_lowest k_lowest)
    b_lowest := ((fun_mk (st := s_lowest) l_lowest e_lowest k_lowest).binds (ps := ["p", "q"]) fun _ _ _ _ _ _ us hl => match us, hl with | [_, _], _ => rfl)
    m_lowest := (PySem.W.mg_of X G a_lowest)
    F_weight_at := (fun_mk (st := s_weight_at) l_weight_at e_weight_at k_weight_at)
    b_weight_at := ((fun_mk (st := s_weight_at) l_weight_at e_weight_at k_weight_at).binds (ps := ["box", "level"]) fun _ _ _ _ _ _ us hl => match us, hl with | [_, _], _ => rfl)
    m_weight_at := (PySem.W.mg_of X G a_weight_at)
    F_scaled_size := (fun_mk (st := s_scaled_size) l_scaled_size e_scaled_size k_scaled_size)
    b_scaled_size := ((fun_mk (st := s_scaled_size) l_scaled_size e_scaled_size k_scaled_size).binds (ps := ["box", "level"]) fun _ _ _ _ _ _ us hl => match us, hl with | [_, _], _ => rfl)
    m_scaled_size := (PySem.W.mg_of X G a_scaled_size)
    F_size_at := (fun_mk (st := s_size_at) l_size_at e_size_at k_size_at)
    b_size_at := ((fun_mk (st := s_size_at) l_size_at e_size_at k_size_at).binds (ps := ["box", "level"]) fun _ _ _ _ _ _ us hl => match us, hl with | [_, _], _ => rfl)
    m_size_at := (PySem.W.mg_of X G a_size_at)
    F_as_fraction := (fun_mk (st := s_as_fraction) l_as_fraction e_as_fraction k_as_fraction)
    b_as_fraction := ((fun_mk (st := s_as_fraction) l_as_fraction e_as_fraction k_as_fraction).binds (ps := ["value"]) fun _ _ _ _ _ _ us hl => match us, hl with | [_], _ => rfl)
    m_as_fraction := (PySem.W.mg_of X G a_as_fraction)
    F_Box_d_call_d := (fun_mk (st := s_Box_d_call_d) l_Box_d_call_d e_Box_d_call_d k_Box_d_call_d)
    b_Box_d_call_d := ((fun_mk (st := s_Box_d_call_d) l_Box_d_call_d e_Box_d_call_d k_Box_d_call_d).binds (ps := ["self", "level"]) fun _ _ _ _ _ _ us hl => match us, hl with | [_, _], _ => rfl)
    F__law_size := (fun_mk (st := s__law_size) l__law_size e__law_size k__law_size)
    b__law_size := ((fun_mk (st := s__law_size) l__law_size e__law_size k__law_size).binds (ps := ["row", "level"]) fun _ _ _ _ _ _ us hl => match us, hl with | [_, _], _ => rfl)
    m__law_size := (PySem.W.mg_of X G a__law_size)
    F_Box_d_eq_d := (fun_mk (st := s_Box_d_eq_d) l_Box_d_eq_d e_Box_d_eq_d k_Box_d_eq_d)
    b_Box_d_eq_d := ((fun_mk (st := s_Box_d_eq_d) l_Box_d_eq_d e_Box_d_eq_d k_Box_d_eq_d).binds (ps := ["self", "other"]) fun _ _ _ _ _ _ us hl => match us, hl with | [_, _], _ => rfl)
    F__law_box_right := (fun_mk (st := s__law_box_right) l__law_box_right e__law_box_right k__law_box_right)
    b__law_box_right := ((fun_mk (st := s__law_box_right) l__law_box_right e__law_box_right k__law_box_right).binds (ps := ["bag", "row"]) fun _ _ _ _ _ _ us hl => match us, hl with | [_, _], _ => rfl)
    m__law_box_right := (PySem.W.mg_of X G a__law_box_right)
    F_law := (fun_mk (st := s_law) l_law e_law k_law)
    b_law := ((fun_mk (st := s_law) l_law e_law k_law).binds (ps := ["script"]) fun _ _ _ _ _ _ us hl => match us, hl with | [_], _ => rfl)
    m_law := (PySem.W.mg_of X G a_law)
    b4_Box_d_init_d := ((FunD.binds1 (ps := ["self", "wish", "least", "most", "grow", "shrink"]) (show FunD K "__init__" "Box.__init__" (defArgs s_Box_d_init_d) (defBody s_Box_d_init_d) (defScope s_Box_d_init_d) [V.int 0, V.non, V.int 0, V.int 0] [] f_Box_d_init_d (PySem.W.fnOf "__init__" "Box.__init__" (defArgs s_Box_d_init_d) (defBody s_Box_d_init_d) (defScope s_Box_d_init_d) (.ref T_Box_d_init_d) kV_Box_d_init_d dc_Box_d_init_d pm_Box_d_init_d an_Box_d_init_d cd_Box_d_init_d ct_Box_d_init_d) from ⟨⟨_, _, _, _, _, _, _, _, _, _, rfl, l_Box_d_init_d, e_Box_d_init_d, .inr ⟨by simp, _, _, _, _, rfl, T1_Box_d_init_d, rfl, .cons ⟨_, rfl⟩ (.cons rfl (.cons ⟨_, rfl⟩ (.cons ⟨_, rfl⟩ (.nil))))⟩, .inl rfl⟩, k_Box_d_init_d⟩) 2 0 (by simp) rfl fun _ _ _ _ _ _ _ us its hu hi => match us, hu, its, hi with | [_, _], _, [_, _, _, _], _ => ⟨_, rfl, rfl⟩))
    kb0_shrink_grow_most_least_wish_Box_d_init_d := ((FunD.kbindsD (ps := ["self", "wish", "least", "most", "grow", "shrink"]) (show FunD K "__init__" "Box.__init__" (defArgs s_Box_d_init_d) (defBody s_Box_d_init_d) (defScope s_Box_d_init_d) [V.int 0, V.non, V.int 0, V.int 0] [] f_Box_d_init_d (PySem.W.fnOf "__init__" "Box.__init__" (defArgs s_Box_d_init_d) (defBody s_Box_d_init_d) (defScope s_Box_d_init_d) (.ref T_Box_d_init_d) kV_Box_d_init_d dc_Box_d_init_d pm_Box_d_init_d an_Box_d_init_d cd_Box_d_init_d ct_Box_d_init_d) from ⟨⟨_, _, _, _, _, _, _, _, _, _, rfl, l_Box_d_init_d, e_Box_d_init_d, .inr ⟨by simp, _, _, _, _, rfl, T1_Box_d_init_d, rfl, .cons ⟨_, rfl⟩ (.cons rfl (.cons ⟨_, rfl⟩ (.cons ⟨_, rfl⟩ (.nil))))⟩, .inl rfl⟩, k_Box_d_init_d⟩) (0 + 1) ["shrink", "grow", "most", "least", "wish"] (fun us its ws => us ++ Z.picked its ws [.k 4, .k 3, .k 2, .k 1, .k 0]) (by simp) (fun r1 r2 r3 => r1.append (Z.Vals.picked r2 r3 [.k 4, .k 3, .k 2, .k 1, .k 0])) fun _ _ _ _ _ _ _ us its ws hu hi hw => match us, hu, its, hi, ws, hw with | [_], _, [_, _, _, _], _, [_, _, _, _, _], _ => ⟨_, rfl, rfl⟩))
    kb2_most_grow_shrink_Box_d_init_d := ((FunD.kbindsD (ps := ["self", "wish", "least", "most", "grow", "shrink"]) (show FunD K "__init__" "Box.__init__" (defArgs s_Box_d_init_d) (defBody s_Box_d_init_d) (defScope s_Box_d_init_d) [V.int 0, V.non, V.int 0, V.int 0] [] f_Box_d_init_d (PySem.W.fnOf "__init__" "Box.__init__" (defArgs s_Box_d_init_d) (defBody s_Box_d_init_d) (defScope s_Box_d_init_d) (.ref T_Box_d_init_d) kV_Box_d_init_d dc_Box_d_init_d pm_Box_d_init_d an_Box_d_init_d cd_Box_d_init_d ct_Box_d_init_d) from ⟨⟨_, _, _, _, _, _, _, _, _, _, rfl, l_Box_d_init_d, e_Box_d_init_d, .inr ⟨by simp, _, _, _, _, rfl, T1_Box_d_init_d, rfl, .cons ⟨_, rfl⟩ (.cons rfl (.cons ⟨_, rfl⟩ (.cons ⟨_, rfl⟩ (.nil))))⟩, .inl rfl⟩, k_Box_d_init_d⟩) (2 + 1) ["most", "grow", "shrink"] (fun us its ws => us ++ Z.picked its ws [.k 0, .k 1, .k 2]) (by simp) (fun r1 r2 r3 => r1.append (Z.Vals.picked r2 r3 [.k 0, .k 1, .k 2])) fun _ _ _ _ _ _ _ us its ws hu hi hw => match us, hu, its, hi, ws, hw with | [_, _, _], _, [_, _, _, _], _, [_, _, _], _ => ⟨_, rfl, rfl⟩))
    m_Box := (PySem.W.mg_of X G a_Box)
    cl_Box := (⟨pg_Box, hd_Box, po_Box, sa_Box⟩)
    no_Box__wish := (no_Box__wish)
    no_Box__least := (no_Box__least)
    no_Box__most := (no_Box__most)
    no_Box__grow := (no_Box__grow)
    no_Box__shrink := (no_Box__shrink)
    mk_Box := (⟨mk_Box, at_Box_d_init_d, fn_Box_d_init_d, kc_Box⟩)
    pr_Box_wish := (⟨pa_Box_wish, pb_Box_wish, pc_Box_wish, _, pd_Box_wish⟩)
    pr_Box_least := (⟨pa_Box_least, pb_Box_least, pc_Box_least, _, pd_Box_least⟩)
    pr_Box_most := (⟨pa_Box_most, pb_Box_most, pc_Box_most, _, pd_Box_most⟩)
    pr_Box_grow := (⟨pa_Box_grow, pb_Box_grow, pc_Box_grow, _, pd_Box_grow⟩)
    pr_Box_shrink := (⟨pa_Box_shrink, pb_Box_shrink, pc_Box_shrink, _, pd_Box_shrink⟩)
    pr_Box_own := (⟨pa_Box_own, pb_Box_own, pc_Box_own, _, pd_Box_own⟩)
    co_Box := (⟨at_Box_d_call_d, fn_Box_d_call_d, fi_Box_d_call_d⟩)
    eq_Box := (⟨at_Box_d_eq_d, fn_Box_d_eq_d, fun n hn => by simp only [plainTys, List.mem_cons, List.not_mem_nil, or_false] at hn; rcases hn with rfl | rfl | rfl | rfl | rfl | rfl <;> assumption, ⟨⟨pg_Box, hd_Box, po_Box, sa_Box⟩, ia_Box, ib_Box, ic_Box, id_Box⟩⟩)
    ni_Box := (fun n hn => Z.kit_no nc_Box nt_Box (by simp only [plainTys, List.mem_cons, List.not_mem_nil, or_false] at hn; rcases hn with rfl | rfl | rfl | rfl | rfl | rfl <;> assumption))
    is_Box := (⟨⟨pg_Box, hd_Box, po_Box, sa_Box⟩, ia_Box, ib_Box, ic_Box, id_Box⟩)
    c_HEAVIEST := (⟨_, PySem.W.mg_of X G x_HEAVIEST⟩)
    c_WIDEST := (⟨_, PySem.W.mg_of X G x_WIDEST⟩)
    n_abs := (PySem.W.mg_none_of X G x_abs)
    n_all := (PySem.W.mg_none_of X G x_all)
    n_bool := (PySem.W.mg_none_of X G x_bool)
    g_gcd := (PySem.W.mg_of X G x_gcd)
    n_int := (PySem.W.mg_none_of X G x_int)
    n_isinstance := (PySem.W.mg_none_of X G x_isinstance)
    n_len := (PySem.W.mg_none_of X G x_len)
    n_list := (PySem.W.mg_none_of X G x_list)
    n_max := (PySem.W.mg_none_of X G x_max)
    n_min := (PySem.W.mg_none_of X G x_min)
    n_range := (PySem.W.mg_none_of X G x_range)
    n_repr := (PySem.W.mg_none_of X G x_repr)
    n_tuple := (PySem.W.mg_none_of X G x_tuple) }
  exact ⟨q.d_law, CIof q, W_law K (CIof q), fun s u => .of_eq rfl, fun base _ _ => ok_law T, hmain q T⟩
end Bx

namespace Bx
open PySem PySem.Spec PyProof.Rows L2 Z
local macro_rules | `(tactic| walk_at "zz") => `(tactic| simp only [zSeq, zAsg, zRet, zRetN, zIfS, zNext, zDrop, zPar, zVar, zC, zOp, zUn, zNeg, zI0, zI, zTest, zAnd, zOr, zNot, zAndV, zOrV, zNotV, zIf, zNil, zCons, zTup, zLst, zLstC, zgName, zgTup, zgCons, zgNil, zgSub, startZ, zCall, zCB, zChain, zIsN, zNotN, zNever,
  zAddA, zMulA, zRepeat, zCat, zIx, seqD, lstD, zMax2, zMin2, zAbs, zLen, zSum, zGcd, zInt, zYes, zBreak, zCont, zLc, ziR1, ziR2, ziList, ziTup, ziZip, ziEnum, wipeZ, zFor,
  at0, at1, at2, at3, at4, ix2_3, ix0_3, isNon_int, isNon_non, Bool.not_true, Bool.not_false,
  List.map_cons, List.map_nil, List.length_cons, List.length_nil, List.replicate_succ, List.replicate_zero, List.append_nil, List.nil_append, List.cons_append, List.getElem?_cons_zero, List.getElem?_cons_succ, List.set_cons_zero, List.set_cons_succ,
  Option.some.injEq, D.int.injEq, D.bl.injEq, D.tup.injEq, D.lst.injEq, D.str.injEq, D.cell.injEq, O.lst.injEq, reduceCtorEq, exists_eq_left', exists_eq_left, false_and, and_false, true_and, and_true, exists_false, or_false, false_or, exists_and_left, exists_eq', exists_and_right, List.cons.injEq, and_assoc, dec_not, dec_yes, t_t, t_f, f_t, f_f, true_implies, false_implies, implies_true, and_self, Nat.reduceAdd, Nat.reduceLeDiff, Nat.reduceSub, Nat.reduceLT])
local macro_rules | `(tactic| walk_at "zy") => `(tactic| try simp only [Option.some.injEq, D.int.injEq, D.bl.injEq, D.tup.injEq, D.lst.injEq, D.str.injEq, D.cell.injEq, O.lst.injEq, reduceCtorEq, exists_eq_left', exists_eq_left, false_and, and_false, true_and, and_true, exists_false, or_false, false_or, exists_and_left, exists_eq', exists_and_right, List.cons.injEq, and_assoc, dec_not, dec_yes, t_t, t_f, f_t, f_f, true_implies, false_implies, implies_true, and_self])
theorem main {K : PySem.W.Frag} {mg : Str → Option Value} {q : Ad} (T : Tx K mg q) : ∀ ns : List Int, ns.length ≤ 63 → W_law K (CIof q) [.scr ns] [] fun d _ => d = .bl true := fun ns hl => law_ok ⟨⟨T.is_Box, rfl⟩, T.ni_Box⟩ hl
end Bx

open PySem PySem.W PyProof.Rows
set_option maxRecDepth 100000 in
set_option maxHeartbeats 0 in
set_option pp.maxSteps 60 in
set_option pp.deepTerms false in
theorem PySem.Challenge.cw_boxrows_k01_boxes_at_levels_holds : PySem.Challenge.rw_boxrows_k01_boxes_at_levels.Holds := by
  w_on; o_law; k_head; (case hw => w_witness2)
  k_fill
  refine Z.walkZ (l := PySem.Challenge.rw_boxrows_k01_boxes_at_levels) (n := 63) (k := 8) (x := "script") rfl (by decide) rfl ⟨rfl, by decide, by decide⟩ (fun w h Y => PySem.W.kIn_of Y) ?F
  case F =>
    intro w mg fa h KX Gm hmg
    refine' Bx.all_mk KX Gm hmg ?a__law_bag ?l__law_bag ?e__law_bag ?k__law_bag ?a__law_pick ?l__law_pick ?e__law_pick ?k__law_pick ?a__law_numbers ?l__law_numbers ?e__law_numbers ?k__law_numbers ?a__law_rows ?l__law_rows ?e__law_rows ?k__law_rows ?a_is_int ?l_is_int ?e_is_int ?k_is_int ?a_in_bounds ?l_in_bounds ?e_in_bounds ?k_in_bounds ?a_are_box_numbers ?l_are_box_numbers ?e_are_box_numbers ?k_are_box_numbers ?a_limited ?l_limited ?e_limited ?k_limited ?a__law_order ?l__law_order ?e__law_order ?k__law_order ?a__law_limited ?l__law_limited ?e__law_limited ?k__law_limited ?a__law_own ?l__law_own ?e__law_own ?k__law_own ?a__law_ratio ?l__law_ratio ?e__law_ratio ?k__law_ratio ?a__law_level_list ?l__law_level_list ?e__law_level_list ?k__law_level_list ?a_is_fraction ?l_is_fraction ?e_is_fraction ?k_is_fraction ?a_is_rational ?l_is_rational ?e_is_rational ?k_is_rational ?a_lowest ?l_lowest ?e_lowest ?k_lowest ?a_weight_at ?l_weight_at ?e_weight_at ?k_weight_at ?a_scaled_size ?l_scaled_size ?e_scaled_size ?k_scaled_size ?a_size_at ?l_size_at ?e_size_at ?k_size_at ?a_as_fraction ?l_as_fraction ?e_as_fraction ?k_as_fraction ?a__law_size ?l__law_size ?e__law_size ?k__law_size ?a__law_box_right ?l__law_box_right ?e__law_box_right ?k__law_box_right ?a_law ?l_law ?e_law ?k_law ?a_Box ?pg_Box ?hd_Box ?po_Box ?sa_Box ?no_Box__wish ?no_Box__least ?no_Box__most ?no_Box__grow ?no_Box__shrink ?at_Box_d_init_d ?fn_Box_d_init_d ?mk_Box ?kc_Box ?pa_Box_wish ?pb_Box_wish ?pc_Box_wish ?pd_Box_wish ?pa_Box_least ?pb_Box_least ?pc_Box_least ?pd_Box_least ?pa_Box_most ?pb_Box_most ?pc_Box_most ?pd_Box_most ?pa_Box_grow ?pb_Box_grow ?pc_Box_grow ?pd_Box_grow ?pa_Box_shrink ?pb_Box_shrink ?pc_Box_shrink ?pd_Box_shrink ?pa_Box_own ?pb_Box_own ?pc_Box_own ?pd_Box_own ?at_Box_d_call_d ?fn_Box_d_call_d ?fi_Box_d_call_d ?ia_Box ?ib_Box ?ic_Box ?id_Box ?at_Box_d_eq_d ?fn_Box_d_eq_d ?nf_Box_NoneType ?nf_Box_bool ?nf_Box_int ?nf_Box_str ?nf_Box_tuple ?nf_Box_list ?nc_Box ?nt_Box ?x_HEAVIEST ?x_WIDEST ?x_abs ?x_all ?x_bool ?x_gcd ?x_int ?x_isinstance ?x_len ?x_list ?x_max ?x_min ?x_range ?x_repr ?x_tuple ?l_Box_d_init_d ?e_Box_d_init_d ?k_Box_d_init_d ?T1_Box_d_init_d ?l_Box_wish ?e_Box_wish ?k_Box_wish ?l_Box_least ?e_Box_least ?k_Box_least ?l_Box_most ?e_Box_most ?k_Box_most ?l_Box_grow ?e_Box_grow ?k_Box_grow ?l_Box_shrink ?e_Box_shrink ?k_Box_shrink ?l_Box_own ?e_Box_own ?k_Box_own ?l_Box_d_call_d ?e_Box_d_call_d ?k_Box_d_call_d ?l_Box_d_eq_d ?e_Box_d_eq_d ?k_Box_d_eq_d ?main
    (case a__law_bag => k_is)
    (case l__law_bag => k_is)
    (case e__law_bag => k_is)
    (case k__law_bag => k_is)
    (case a__law_pick => k_is)
    (case l__law_pick => k_is)
    (case e__law_pick => k_is)
    (case k__law_pick => k_is)
    (case a__law_numbers => k_is)
    (case l__law_numbers => k_is)
    (case e__law_numbers => k_is)
    (case k__law_numbers => k_is)
    (case a__law_rows => k_is)
    (case l__law_rows => k_is)
    (case e__law_rows => k_is)
    (case k__law_rows => k_is)
    (case a_is_int => k_is)
    (case l_is_int => k_is)
    (case e_is_int => k_is)
    (case k_is_int => k_is)
    (case a_in_bounds => k_is)
    (case l_in_bounds => k_is)
    (case e_in_bounds => k_is)
    (case k_in_bounds => k_is)
    (case a_are_box_numbers => k_is)
    (case l_are_box_numbers => k_is)
    (case e_are_box_numbers => k_is)
    (case k_are_box_numbers => k_is)
    (case a_limited => k_is)
    (case l_limited => k_is)
    (case e_limited => k_is)
    (case k_limited => k_is)
    (case a__law_order => k_is)
    (case l__law_order => k_is)
    (case e__law_order => k_is)
    (case k__law_order => k_is)
    (case a__law_limited => k_is)
    (case l__law_limited => k_is)
    (case e__law_limited => k_is)
    (case k__law_limited => k_is)
    (case a__law_own => k_is)
    (case l__law_own => k_is)
    (case e__law_own => k_is)
    (case k__law_own => k_is)
    (case a__law_ratio => k_is)
    (case l__law_ratio => k_is)
    (case e__law_ratio => k_is)
    (case k__law_ratio => k_is)
    (case a__law_level_list => k_is)
    (case l__law_level_list => k_is)
    (case e__law_level_list => k_is)
    (case k__law_level_list => k_is)
    (case a_is_fraction => k_is)
    (case l_is_fraction => k_is)
    (case e_is_fraction => k_is)
    (case k_is_fraction => k_is)
    (case a_is_rational => k_is)
    (case l_is_rational => k_is)
    (case e_is_rational => k_is)
    (case k_is_rational => k_is)
    (case a_lowest => k_is)
    (case l_lowest => k_is)
    (case e_lowest => k_is)
    (case k_lowest => k_is)
    (case a_weight_at => k_is)
    (case l_weight_at => k_is)
    (case e_weight_at => k_is)
    (case k_weight_at => k_is)
    (case a_scaled_size => k_is)
    (case l_scaled_size => k_is)
    (case e_scaled_size => k_is)
    (case k_scaled_size => k_is)
    (case a_size_at => k_is)
    (case l_size_at => k_is)
    (case e_size_at => k_is)
    (case k_size_at => k_is)
    (case a_as_fraction => k_is)
    (case l_as_fraction => k_is)
    (case e_as_fraction => k_is)
    (case k_as_fraction => k_is)
    (case a__law_size => k_is)
    (case l__law_size => k_is)
    (case e__law_size => k_is)
    (case k__law_size => k_is)
    (case a__law_box_right => k_is)
    (case l__law_box_right => k_is)
    (case e__law_box_right => k_is)
    (case k__law_box_right => k_is)
    (case a_law => k_is)
    (case l_law => k_is)
    (case e_law => k_is)
    (case k_law => k_is)
    (case a_Box => k_is)
    (case pg_Box => k_is)
    (case hd_Box => k_is)
    (case po_Box => k_is)
    (case sa_Box => k_is)
    (case no_Box__wish => k_is)
    (case no_Box__least => k_is)
    (case no_Box__most => k_is)
    (case no_Box__grow => k_is)
    (case no_Box__shrink => k_is)
    (case at_Box_d_init_d => k_is)
    (case fn_Box_d_init_d => k_is)
    (case mk_Box => k_is)
    (case kc_Box => k_is)
    (case pa_Box_wish => k_is)
    (case pb_Box_wish => k_is)
    (case pc_Box_wish => k_is)
    (case pd_Box_wish => k_is)
    (case pa_Box_least => k_is)
    (case pb_Box_least => k_is)
    (case pc_Box_least => k_is)
    (case pd_Box_least => k_is)
    (case pa_Box_most => k_is)
    (case pb_Box_most => k_is)
    (case pc_Box_most => k_is)
    (case pd_Box_most => k_is)
    (case pa_Box_grow => k_is)
    (case pb_Box_grow => k_is)
    (case pc_Box_grow => k_is)
    (case pd_Box_grow => k_is)
    (case pa_Box_shrink => k_is)
    (case pb_Box_shrink => k_is)
    (case pc_Box_shrink => k_is)
    (case pd_Box_shrink => k_is)
    (case pa_Box_own => k_is)
    (case pb_Box_own => k_is)
    (case pc_Box_own => k_is)
    (case pd_Box_own => k_is)
    (case at_Box_d_call_d => k_is)
    (case fn_Box_d_call_d => k_is)
    (case fi_Box_d_call_d => k_is)
    (case ia_Box => k_is)
    (case ib_Box => k_is)
    (case ic_Box => k_is)
    (case id_Box => k_is)
    (case at_Box_d_eq_d => k_is)
    (case fn_Box_d_eq_d => k_is)
    (case nf_Box_NoneType => k_is)
    (case nf_Box_bool => k_is)
    (case nf_Box_int => k_is)
    (case nf_Box_str => k_is)
    (case nf_Box_tuple => k_is)
    (case nf_Box_list => k_is)
    (case nc_Box => k_is)
    (case nt_Box => k_is)
    (case x_HEAVIEST => k_is)
    (case x_WIDEST => k_is)
    (case x_abs => k_is)
    (case x_all => k_is)
    (case x_bool => k_is)
    (case x_gcd => k_is)
    (case x_int => k_is)
    (case x_isinstance => k_is)
    (case x_len => k_is)
    (case x_list => k_is)
    (case x_max => k_is)
    (case x_min => k_is)
    (case x_range => k_is)
    (case x_repr => k_is)
    (case x_tuple => k_is)
    (case l_Box_d_init_d => k_is)
    (case e_Box_d_init_d => k_is)
    (case k_Box_d_init_d => k_is)
    (case T1_Box_d_init_d => k_is)
    (case l_Box_wish => k_is)
    (case e_Box_wish => k_is)
    (case k_Box_wish => k_is)
    (case l_Box_least => k_is)
    (case e_Box_least => k_is)
    (case k_Box_least => k_is)
    (case l_Box_most => k_is)
    (case e_Box_most => k_is)
    (case k_Box_most => k_is)
    (case l_Box_grow => k_is)
    (case e_Box_grow => k_is)
    (case k_Box_grow => k_is)
    (case l_Box_shrink => k_is)
    (case e_Box_shrink => k_is)
    (case k_Box_shrink => k_is)
    (case l_Box_own => k_is)
    (case e_Box_own => k_is)
    (case k_Box_own => k_is)
    (case l_Box_d_call_d => k_is)
    (case e_Box_d_call_d => k_is)
    (case k_Box_d_call_d => k_is)
    (case l_Box_d_eq_d => k_is)
    (case e_Box_d_eq_d => k_is)
    (case k_Box_d_eq_d => k_is)
    (case main => exact fun q T => Bx.main T)
