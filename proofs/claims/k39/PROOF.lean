import PyProof.Rows.All
import Wide.All
import OpenK.AllK
import Wide.FinOn
import HandS.ForMost
import HandS.Walk
import HandS.Wide
import HandS.Gcd
import HandS.Property
import HandS.Star
import HandS.IsInst
import HandS.OwnEq
import HandS.Style
import HandS.Defaults
import HandS.MakeKw
import HandS.MakeKwOnly
import KE.KMathG
import HandS.DictComp
import HandS.SortInts
import HandS.SortKw
import HandS.TryOnly
import KE.GoesMore
import HandS.SetFor
import HandS.Strs
import HandS.Conv
import HandS.SetBool
import HandS.Rev
import HandS.WideBits
import HandS.TupAny
import KE.KTupSum
import PySem.Challenge.RW_boxrows_k39_lines_of_far_patterns
set_option Elab.async false
set_option linter.all false
set_option maxRecDepth 100000
set_option maxHeartbeats 4000000
/-! Z1: data without addresses (D), a store of mutable lists (cells), what represents them on the abstract heap, and readings over them (ZE, ZT, ZA, ZS) that the layer's readings refine. -/
namespace Z
open PySem L2

/-- data: what a value is, all the way down; cell n: the n-th mutable object; scr: the script; ins: an instance that never changes -/
inductive D where
  | non | bl (b : Bool) | int (i : Int) | str (x : Str) | ty (n : String)
  | tup (ds : List D) | lst (ds : List D) | ins (c : Nat) (ds : List D) | cell (n : Nat) | scr (ns : List Int) | cls (c : Nat) | dct (ks : List Int) (ds : List D)
/-- what a cell holds -/
inductive O where
  | lst (ds : List D)
  | ins (c : Nat) (fs : List (Str × D))
  | dct (ks : List Int) (ds : List D)
abbrev Store := List O
/-- the classes: where each stands, its attributes in order -/
structure CI where
  adr : Nat → Addr
  nms : Nat → List Str

section
variable (K : PySem.W.Frag) (C : CI) (S A : List Addr) (H : Hp)
mutual
inductive Rep : V → D → Prop where
  | non : Rep .non .non
  | bl (b : Bool) : Rep (.bl b) (.bl b)
  | int (i : Int) : Rep (.int i) (.int i)
  | str (x : Str) : Rep (.str x) (.str x)
  | ty (n : String) : Rep (.ty n) (.ty n)
  | tup {a : Addr} {xs : List V} {ds : List D} (h : H a = some (.tup xs)) (hA : a ∉ A) (hS : a ∉ S) (r : RepL xs ds) : Rep (.ref a) (.tup ds)
  | lst {a : Addr} {xs : List V} {ds : List D} (h : H a = some (.lst xs)) (hA : a ∉ A) (hS : a ∉ S) (r : RepL xs ds) : Rep (.ref a) (.lst ds)
  | ins {a dx : Addr} {c : Nat} {xs : List V} {ds : List D} (h : H a = some (.ins (C.adr c) dx ((C.nms c).zip xs))) (hA : a ∉ A) (hS : a ∉ S) (hl : xs.length = (C.nms c).length) (r : RepL xs ds) : Rep (.ref a) (.ins c ds)
  | cell {a : Addr} {n : Nat} (h : A[n]? = some a) : Rep (.ref a) (.cell n)
  | dct {a : Addr} {ks : List Int} {xs : List V} {ds : List D} (h : H a = some (.dK ((ks.map Sum.inl).zip xs))) (hA : a ∉ A) (hS : a ∉ S) (hl : xs.length = ks.length) (r : RepL xs ds) : Rep (.ref a) (.dct ks ds)
  | cls (c : Nat) : Rep (.ref (C.adr c)) (.cls c)
  | scr {a : Addr} {ns : List Int} (h : (∃ o, H a = some (.frz o (.lst (ns.map V.int)))) ∧ a ∉ A ∧ a ∉ S ∨ (∃ (o : Obj) (its : Array Value) (n : Nat), K.lookup a = some o ∧ o.cls = .type "list" ∧ o.dict = none ∧ o.data = .seq its n ∧ its.size ≤ sizeLine ∧ Vals (ns.map V.int) its.toList)) : Rep (.ref a) (.scr ns)
inductive RepL : List V → List D → Prop where
  | nil : RepL [] []
  | cons {v : V} {vs : List V} {d : D} {ds : List D} (h : Rep v d) (r : RepL vs ds) : RepL (v :: vs) (d :: ds)
end
/-- what stands at a cell's address -/
def CellAt (a : Addr) : O → Prop
  | .lst ds => ∃ xs, H a = some (.lst xs) ∧ RepL K C S A H xs ds
  | .ins c fs => ∃ dx xs, H a = some (.ins (C.adr c) dx xs) ∧ xs.map (·.1) = fs.map (·.1) ∧ RepL K C S A H (xs.map (·.2)) (fs.map (·.2))
  | .dct ks ds => ∃ xs, H a = some (.dK ((ks.map Sum.inl).zip xs)) ∧ xs.length = ks.length ∧ RepL K C S A H xs ds
/-- cells: the n-th address holds the n-th content -/
structure Cells (Δ : Store) : Prop where
  len : A.length = Δ.length
  nd : A.Nodup
  dj : ∀ a ∈ A, a ∉ S
  as : ∀ a ∈ S, H a ≠ none
  at_ : ∀ (n : Nat) (a : Addr) (o : O), A[n]? = some a → Δ[n]? = some o → CellAt K C S A H a o
/-- slots -/
structure Slots (σ : L2.St) (Γ : List (Option D)) : Prop where
  len : σ.length = Γ.length
  at_ : ∀ (i : Nat) (d : D), Γ[i]? = some (some d) → ∃ v, σ[i]? = some (some v) ∧ Rep K C S A H v d
end
/-- the heap goes on: new cells B, all but the cells kept -/
structure Ext (A : List Addr) (H : Hp) (A' : List Addr) (H' : Hp) : Prop where
  pre : ∃ B, A' = A ++ B ∧ ∀ b ∈ B, H b = none
  keep : ∀ a o, a ∉ A → H a = some o → H' a = some o
  trk : ∀ a, H' a = none → H a = none

theorem Ext.refl (A : List Addr) (H : Hp) : Ext A H A H := ⟨⟨[], by simp, by simp⟩, fun _ _ _ h => h, fun _ h => h⟩
theorem Ext.trans {A A1 A2 : List Addr} {H H1 H2 : Hp} (e : Ext A H A1 H1) (f : Ext A1 H1 A2 H2) : Ext A H A2 H2 := by
  obtain ⟨B, hB, nB⟩ := e.pre
  obtain ⟨B', hB', nB'⟩ := f.pre
  refine ⟨⟨B ++ B', by rw [hB', hB, List.append_assoc], fun b hb => ?_⟩, fun a o ha h => ?_, fun a h => e.trk a (f.trk a h)⟩
  · rcases List.mem_append.mp hb with hb | hb
    · exact nB b hb
    · exact e.trk b (nB' b hb)
  · refine f.keep a o ?_ (e.keep a o ha h)
    rw [hB]
    intro hm
    rcases List.mem_append.mp hm with hm | hm
    · exact ha hm
    · rw [nB a hm] at h
      cases h
/-- a new object -/
theorem Ext.new {A : List Addr} {H : Hp} {p : Addr} {o : HO} (h : H p = none) : Ext A H A (upd H p o) := by
  refine ⟨⟨[], by simp, by simp⟩, fun a u _ e => by rw [upd_ne (ne_of_none e h)]; exact e, fun a e => ?_⟩
  by_cases q : a = p
  · subst q; exact h
  · rw [upd_ne q] at e; exact e
/-- a new object, made a cell -/
theorem Ext.newCell {A : List Addr} {H : Hp} {p : Addr} {o : HO} (h : H p = none) : Ext A H (A ++ [p]) (upd H p o) := by
  refine ⟨⟨[p], rfl, by simp [h]⟩, fun a u _ e => by rw [upd_ne (ne_of_none e h)]; exact e, fun a e => ?_⟩
  by_cases q : a = p
  · subst q; exact h
  · rw [upd_ne q] at e; exact e
/-- a cell is written -/
theorem Ext.write {A : List Addr} {H : Hp} {p : Addr} {o : HO} (hp : p ∈ A) (h : H p ≠ none) : Ext A H A (upd H p o) := by
  refine ⟨⟨[], by simp, by simp⟩, fun a u ha e => ?_, fun a e => ?_⟩
  · rw [upd_ne (fun q => ha (by rw [q]; exact hp))]; exact e
  · by_cases q : a = p
    · subst q; rw [upd_same] at e; cases e
    · rw [upd_ne q] at e; exact e
section
variable {K : PySem.W.Frag} {C : CI} {S S' A A' : List Addr} {H H' : Hp}
/-- the weakest going on that keeps what is represented -/
structure Mo (S A : List Addr) (H : Hp) (S' A' : List Addr) (H' : Hp) : Prop where
  pre : ∃ B, A' = A ++ B ∧ ∀ b ∈ B, H b = none
  sub : ∀ b ∈ S', b ∈ S ∨ H b = none
  keep : ∀ a o, a ∉ A → a ∉ S → H a = some o → H' a = some o
theorem Ext.mo (e : Ext A H A' H') : Mo S A H S A' H' := ⟨e.pre, fun _ h => .inl h, fun a o h1 _ h => e.keep a o h1 h⟩
theorem Mo.notA (m : Mo S A H S' A' H') {a : Addr} {o : HO} (ha : a ∉ A) (h : H a = some o) : a ∉ A' := by
  obtain ⟨B, hB, nB⟩ := m.pre
  rw [hB]
  intro hm
  rcases List.mem_append.mp hm with hm | hm
  · exact ha hm
  · rw [nB a hm] at h
    cases h
theorem Mo.notS (m : Mo S A H S' A' H') {a : Addr} {o : HO} (ha : a ∉ S) (h : H a = some o) : a ∉ S' := fun hm => by
  rcases m.sub a hm with hm | hm
  · exact ha hm
  · rw [hm] at h; cases h
mutual
theorem Rep.mono (m : Mo S A H S' A' H') : ∀ (d : D) {v : V}, Rep K C S A H v d → Rep K C S' A' H' v d
  | .non, _, h => by cases h; exact .non
  | .bl b, _, h => by cases h; exact .bl b
  | .int i, _, h => by cases h; exact .int i
  | .str x, _, h => by cases h; exact .str x
  | .ty n, _, h => by cases h; exact .ty n
  | .cls c, _, h => by cases h; exact .cls c
  | .tup ds, _, h => by
    cases h with
    | tup h hA hS r => exact .tup (m.keep _ _ hA hS h) (m.notA hA h) (m.notS hS h) (RepL.mono m ds r)
  | .lst ds, _, h => by
    cases h with
    | lst h hA hS r => exact .lst (m.keep _ _ hA hS h) (m.notA hA h) (m.notS hS h) (RepL.mono m ds r)
  | .ins c ds, _, h => by
    cases h with
    | ins h hA hS hl r => exact .ins (m.keep _ _ hA hS h) (m.notA hA h) (m.notS hS h) hl (RepL.mono m ds r)
  | .dct ks ds, _, h => by
    cases h with
    | dct h hA hS hl r => exact .dct (m.keep _ _ hA hS h) (m.notA hA h) (m.notS hS h) hl (RepL.mono m ds r)
  | .cell n, _, h => by
    cases h with
    | cell h =>
      obtain ⟨B, hB, _⟩ := m.pre
      refine .cell ?_
      rw [hB, List.getElem?_append_left (List.getElem?_eq_some_iff.mp h).1]
      exact h
  | .scr ns, _, h => by
    cases h with
    | scr h =>
      refine .scr ?_
      rcases h with ⟨⟨o, h⟩, hA, hS⟩ | h
      · exact .inl ⟨⟨o, m.keep _ _ hA hS h⟩, m.notA hA h, m.notS hS h⟩
      · exact .inr h
theorem RepL.mono (m : Mo S A H S' A' H') : ∀ (ds : List D) {vs : List V}, RepL K C S A H vs ds → RepL K C S' A' H' vs ds
  | [], _, h => by cases h; exact .nil
  | d :: ds, _, h => by
    cases h with
    | cons h r => exact .cons (Rep.mono m d h) (RepL.mono m ds r)
end
theorem Rep.ext {v : V} {d : D} (e : Ext A H A' H') (h : Rep K C S A H v d) : Rep K C S A' H' v d := Rep.mono e.mo d h
theorem RepL.ext {vs : List V} {ds : List D} (e : Ext A H A' H') (h : RepL K C S A H vs ds) : RepL K C S A' H' vs ds := RepL.mono e.mo ds h
theorem RepL.length : ∀ {vs : List V} {ds : List D}, RepL K C S A H vs ds → vs.length = ds.length
  | _, _, .nil => rfl
  | _, _, .cons _ r => congrArg (· + 1) (RepL.length r)
theorem RepL.get : ∀ {vs : List V} {ds : List D} {i : Nat} {d : D}, RepL K C S A H vs ds → ds[i]? = some d → ∃ v, vs[i]? = some v ∧ Rep K C S A H v d
  | _, _, _, _, .nil, e => by simp at e
  | _, _, 0, _, .cons h _, e => by simp at e; subst e; exact ⟨_, rfl, h⟩
  | _, _, i + 1, _, .cons _ r, e => by
    obtain ⟨v, h1, h2⟩ := RepL.get (i := i) r (by simpa using e)
    exact ⟨v, by simpa using h1, h2⟩
theorem RepL.getV : ∀ {vs : List V} {ds : List D} {i : Nat} {v : V}, RepL K C S A H vs ds → vs[i]? = some v → ∃ d, ds[i]? = some d ∧ Rep K C S A H v d
  | _, _, _, _, .nil, e => by simp at e
  | _, _, 0, _, .cons h _, e => by simp at e; subst e; exact ⟨_, rfl, h⟩
  | _, _, i + 1, _, .cons _ r, e => by
    obtain ⟨v, h1, h2⟩ := RepL.getV (i := i) r (by simpa using e)
    exact ⟨v, by simpa using h1, h2⟩
theorem RepL.append : ∀ {vs ws : List V} {ds es : List D}, RepL K C S A H vs ds → RepL K C S A H ws es → RepL K C S A H (vs ++ ws) (ds ++ es)
  | _, _, _, _, .nil, q => q
  | _, _, _, _, .cons h r, q => .cons h (RepL.append r q)
theorem RepL.take : ∀ {vs : List V} {ds : List D} (n : Nat), RepL K C S A H vs ds → RepL K C S A H (vs.take n) (ds.take n)
  | _, _, 0, _ => .nil
  | _, _, _ + 1, .nil => .nil
  | _, _, n + 1, .cons h r => .cons h (RepL.take n r)
theorem RepL.drop : ∀ {vs : List V} {ds : List D} (n : Nat), RepL K C S A H vs ds → RepL K C S A H (vs.drop n) (ds.drop n)
  | _, _, 0, r => r
  | _, _, _ + 1, .nil => .nil
  | _, _, n + 1, .cons _ r => RepL.drop n r
theorem RepL.reverse : ∀ {vs : List V} {ds : List D}, RepL K C S A H vs ds → RepL K C S A H vs.reverse ds.reverse
  | _, _, .nil => .nil
  | _, _, .cons h r => by
    rw [List.reverse_cons, List.reverse_cons]
    exact RepL.append (RepL.reverse r) (.cons h .nil)
theorem RepL.set : ∀ {vs : List V} {ds : List D} {v : V} {d : D} (i : Nat), Rep K C S A H v d → RepL K C S A H vs ds → RepL K C S A H (vs.set i v) (ds.set i d)
  | _, _, _, _, _, _, .nil => .nil
  | _, _, _, _, 0, q, .cons _ r => .cons q r
  | _, _, _, _, i + 1, q, .cons h r => .cons h (RepL.set i q r)
theorem RepL.repl (k : Nat) {vs : List V} {ds : List D} (r : RepL K C S A H vs ds) : RepL K C S A H (List.replicate k vs).flatten (List.replicate k ds).flatten := by
  induction k with
  | zero => exact .nil
  | succ k ih =>
    rw [List.replicate_succ, List.replicate_succ, List.flatten_cons, List.flatten_cons]
    exact RepL.append r ih
theorem Slots.ext {σ : L2.St} {Γ : List (Option D)} (e : Ext A H A' H') (h : Slots K C S A H σ Γ) : Slots K C S A' H' σ Γ :=
  ⟨h.len, fun i d q => by obtain ⟨v, h1, h2⟩ := h.at_ i d q; exact ⟨v, h1, h2.ext e⟩⟩
theorem Slots.mono {σ : L2.St} {Γ : List (Option D)} (m : Mo S A H S' A' H') (h : Slots K C S A H σ Γ) : Slots K C S' A' H' σ Γ :=
  ⟨h.len, fun i d q => by obtain ⟨v, h1, h2⟩ := h.at_ i d q; exact ⟨v, h1, Rep.mono m d h2⟩⟩
theorem Slots.set {σ : L2.St} {Γ : List (Option D)} {v : V} {d : D} (h : Slots K C S A H σ Γ) (i : Nat) (r : Rep K C S A H v d) : Slots K C S A H (σ.set i (some v)) (Γ.set i (some d)) := by
  refine ⟨by rw [List.length_set, List.length_set]; exact h.len, fun j e q => ?_⟩
  by_cases hj : j = i
  · subst hj
    have hlt : j < Γ.length := by
      have := (List.getElem?_eq_some_iff.mp q).1
      rw [List.length_set] at this
      exact this
    rw [List.getElem?_set_self hlt] at q
    cases q
    exact ⟨v, List.getElem?_set_self (by rw [h.len]; exact hlt), r⟩
  · rw [List.getElem?_set_ne (Ne.symm hj)] at q
    obtain ⟨w, h1, h2⟩ := h.at_ j e q
    exact ⟨w, by rw [List.getElem?_set_ne (Ne.symm hj)]; exact h1, h2⟩
/-- a cell's content, where its object is kept -/
theorem CellAt.mono {a : Addr} {o : O} (m : Mo S A H S' A' H') (k : ∀ u, H a = some u → H' a = some u) (h : CellAt K C S A H a o) : CellAt K C S' A' H' a o := by
  cases o with
  | lst ds =>
    obtain ⟨xs, e, r⟩ := h
    exact ⟨xs, k _ e, RepL.mono m ds r⟩
  | ins c fs =>
    obtain ⟨dx, xs, e, q, r⟩ := h
    exact ⟨dx, xs, k _ e, q, RepL.mono m _ r⟩
  | dct ks ds =>
    obtain ⟨xs, e, q, r⟩ := h
    exact ⟨xs, k _ e, q, RepL.mono m ds r⟩
theorem CellAt.trk {a : Addr} {o : O} (h : CellAt K C S A H a o) : H a ≠ none := by
  cases o with
  | lst ds =>
    obtain ⟨xs, e, r⟩ := h
    rw [e]; simp
  | ins c fs =>
    obtain ⟨dx, xs, e, q, r⟩ := h
    rw [e]; simp
  | dct ks ds =>
    obtain ⟨xs, e, q, r⟩ := h
    rw [e]; simp
/-- the cells, behind something that kept all tracked objects (and made nothing a cell) -/
theorem Cells.kept {Δ : Store} (h : Cells K C S A H Δ) (k : ∀ a o, H a = some o → H' a = some o) : Cells K C S A H' Δ := by
  refine ⟨h.len, h.nd, h.dj, fun a ha => ?_, fun n a o h1 h2 => ?_⟩
  · cases q : H a with
    | none => exact absurd q (h.as a ha)
    | some o => rw [k a o q]; simp
  · exact (h.at_ n a o h1 h2).mono ⟨⟨[], by simp, by simp⟩, fun _ h => .inl h, fun a o _ _ q => k a o q⟩ (k a)
end

/-! ### readings over data -/
abbrev Env := List (Option D)
abbrev ZE := Env → Store → (D → Store → Prop) → Prop
abbrev ZT := Env → Store → (Bool → Store → Prop) → Prop
abbrev ZA := Env → Store → (List D → Store → Prop) → Prop
structure ZEnds where
  nx : Env → Store → Prop
  rt : D → Store → Prop
  bk : Env → Store → Prop := fun _ _ => False
  ct : Env → Store → Prop := fun _ _ => False
abbrev ZS := ZEnds → Env → Store → Prop

def RefE (K : PySem.W.Frag) (C : CI) (te : TE) (z : ZE) : Prop := ∀ (S A : List Addr) (σ : L2.St) (H : Hp) (Γ : Env) (Δ : Store) (P : D → Store → Prop) (Q : VK), Slots K C S A H σ Γ → Cells K C S A H Δ → z Γ Δ P →
  (∀ v d A' H' Δ', Ext A H A' H' → Cells K C S A' H' Δ' → Rep K C S A' H' v d → P d Δ' → Q v H') → te σ H Q
def RefT (K : PySem.W.Frag) (C : CI) (tt : TT) (z : ZT) : Prop := ∀ (S A : List Addr) (σ : L2.St) (H : Hp) (Γ : Env) (Δ : Store) (P : Bool → Store → Prop) (Q : Bool → Hp → Prop), Slots K C S A H σ Γ → Cells K C S A H Δ → z Γ Δ P →
  (∀ b A' H' Δ', Ext A H A' H' → Cells K C S A' H' Δ' → P b Δ' → Q b H') → tt σ H Q
def RefA (K : PySem.W.Frag) (C : CI) (ta : TA) (z : ZA) : Prop := ∀ (S A : List Addr) (σ : L2.St) (H : Hp) (Γ : Env) (Δ : Store) (P : List D → Store → Prop) (Q : List V → Hp → Prop), Slots K C S A H σ Γ → Cells K C S A H Δ → z Γ Δ P →
  (∀ vs ds A' H' Δ', Ext A H A' H' → Cells K C S A' H' Δ' → RepL K C S A' H' vs ds → P ds Δ' → Q vs H') → ta σ H Q
/-- what a wish over slots and heap says where the wish over data is Z -/
def NxOk (K : PySem.W.Frag) (C : CI) (S A : List Addr) (H : Hp) (Z : Env → Store → Prop) (N : L2.St → Hp → Prop) : Prop :=
  ∀ σ' A' H' Γ' Δ', Ext A H A' H' → Slots K C S A' H' σ' Γ' → Cells K C S A' H' Δ' → Z Γ' Δ' → N σ' H'
structure EndsOk (K : PySem.W.Frag) (C : CI) (S A : List Addr) (H : Hp) (Z : ZEnds) (N : Ends) : Prop where
  nx : NxOk K C S A H Z.nx N.nx
  bk : NxOk K C S A H Z.bk N.bk
  ct : NxOk K C S A H Z.ct N.ct
  rt : ∀ v d A' H' Δ', Ext A H A' H' → Cells K C S A' H' Δ' → Rep K C S A' H' v d → Z.rt d Δ' → N.rt v H'
def RefS (K : PySem.W.Frag) (C : CI) (ts : TS) (z : ZS) : Prop := ∀ (S A : List Addr) (σ : L2.St) (H : Hp) (Γ : Env) (Δ : Store) (Z : ZEnds) (N : Ends), Slots K C S A H σ Γ → Cells K C S A H Δ → z Z Γ Δ → EndsOk K C S A H Z N → ts N σ H
section
variable {K : PySem.W.Frag} {C : CI} {S A A' : List Addr} {H H' : Hp}
theorem NxOk.ext {Z : Env → Store → Prop} {N : L2.St → Hp → Prop} (h : NxOk K C S A H Z N) (e : Ext A H A' H') : NxOk K C S A' H' Z N :=
  fun σ' A2 H2 Γ' Δ' e2 s c z => h σ' A2 H2 Γ' Δ' (e.trans e2) s c z
theorem EndsOk.ext {Z : ZEnds} {N : Ends} (h : EndsOk K C S A H Z N) (e : Ext A H A' H') : EndsOk K C S A' H' Z N :=
  ⟨h.nx.ext e, h.bk.ext e, h.ct.ext e, fun v d A2 H2 Δ' e2 c r z => h.rt v d A2 H2 Δ' (e.trans e2) c r z⟩
end

/-! ### the judgements: a piece of syntax and its reading over data -/
structure EZ (C : CI) (X : Cx) (e : Expr) (z : ZE) : Prop where
  ex : ∃ te, PE X e te ∧ RefE X.K C te z
structure TZ (C : CI) (X : Cx) (e : Expr) (z : ZT) : Prop where
  ex : ∃ tt, PT X e tt ∧ RefT X.K C tt z
structure WZ (C : CI) (X : Cx) (e : Expr) (z : ZT) : Prop where
  ex : ∃ tt, PW X e tt ∧ RefT X.K C tt z
structure AZ (C : CI) (X : Cx) (es : List Expr) (z : ZA) : Prop where
  ex : ∃ ta, PA X es ta ∧ RefA X.K C ta z
structure SZ (C : CI) (X : Cx) (st : Stmt) (z : ZS) : Prop where
  ex : ∃ ts, PS X st ts ∧ RefS X.K C ts z
structure SZs (C : CI) (X : Cx) (st : List Stmt) (z : ZS) : Prop where
  ex : ∃ ts, PSs X st ts ∧ RefS X.K C ts z
theorem WZ.tz {C : CI} {X : Cx} {e : Expr} {z : ZT} (h : WZ C X e z) : TZ C X e z := by
  obtain ⟨t, h1, h2⟩ := h.ex
  exact ⟨t, h1.pt, h2⟩
end Z

/-! Z2: expressions over data. -/
namespace Z
open PySem L2

abbrev ZR1 := D → Store → (D → Store → Prop) → Prop
abbrev ZR2 := D → D → Store → (D → Store → Prop) → Prop
abbrev ZRC := List D → Store → (D → Store → Prop) → Prop
def Ref1 (K : PySem.W.Frag) (C : CI) (r : V → Hp → VK → Prop) (z : ZR1) : Prop := ∀ (S A : List Addr) (H : Hp) (Δ : Store) (x : V) (dx : D) (P : D → Store → Prop) (Q : VK), Cells K C S A H Δ → Rep K C S A H x dx → z dx Δ P →
  (∀ v d A' H' Δ', Ext A H A' H' → Cells K C S A' H' Δ' → Rep K C S A' H' v d → P d Δ' → Q v H') → r x H Q
def Ref2 (K : PySem.W.Frag) (C : CI) (r : R2) (z : ZR2) : Prop := ∀ (S A : List Addr) (H : Hp) (Δ : Store) (x y : V) (dx dy : D) (P : D → Store → Prop) (Q : VK), Cells K C S A H Δ → Rep K C S A H x dx → Rep K C S A H y dy → z dx dy Δ P →
  (∀ v d A' H' Δ', Ext A H A' H' → Cells K C S A' H' Δ' → Rep K C S A' H' v d → P d Δ' → Q v H') → r x y H Q
def RefC (K : PySem.W.Frag) (C : CI) (r : List V → Hp → VK → Prop) (z : ZRC) : Prop := ∀ (S A : List Addr) (H : Hp) (Δ : Store) (xs : List V) (ds : List D) (P : D → Store → Prop) (Q : VK), Cells K C S A H Δ → RepL K C S A H xs ds → z ds Δ P →
  (∀ v d A' H' Δ', Ext A H A' H' → Cells K C S A' H' Δ' → Rep K C S A' H' v d → P d Δ' → Q v H') → r xs H Q

/-! ### names, constants -/
def zVar (i : Nat) : ZE := fun Γ Δ P => ∃ d, Γ[i]? = some (some d) ∧ P d Δ
def zC (d : D) : ZE := fun _ Δ P => P d Δ
section
variable {C : CI} {X : Cx}
theorem ez_var (i : Nat) {x : Str} {pos : Pos} (hN : X.N[i]? = some x := by rfl) (hv : Vis X.env.scope x := by first | exact Or.inl rfl | exact Or.inr (Or.inl rfl) | exact Or.inr (Or.inr rfl)) (hd : (x == ("__debug__" : Str)) = false := by decide)
    (hcd : (x == ("__classdict__" : Str)) = false := by decide) : EZ C X (.Name x pos) (zVar i) := by
  refine ⟨tVar i, pe_var hN hv hd hcd, fun S A σ H Γ Δ P Q hs hc hz k => ?_⟩
  obtain ⟨d, e, p⟩ := hz
  obtain ⟨v, h1, h2⟩ := hs.at_ i d e
  exact ⟨v, h1, k v d A H Δ (Ext.refl _ _) hc h2 p⟩
theorem ref_c {K : PySem.W.Frag} {v : V} {d : D} (h : ∀ S A H, Rep K C S A H v d) : RefE K C (tC v) (zC d) := fun S A σ H Γ Δ P Q hs hc hz k => k v d A H Δ (Ext.refl _ _) hc (h S A H) hz
theorem ez_int {i j pos} : EZ C X (.Constant (.int i) j pos) (zC (.int i)) := ⟨_, pe_int, ref_c fun _ _ _ => .int i⟩
theorem ez_bl {b j pos} : EZ C X (.Constant (.bool b) j pos) (zC (.bl b)) := ⟨_, pe_bl, ref_c fun _ _ _ => .bl b⟩
theorem ez_non {j pos} : EZ C X (.Constant .none j pos) (zC .non) := ⟨_, pe_non, ref_c fun _ _ _ => .non⟩
theorem ez_str {x j pos} : EZ C X (.Constant (.str x) j pos) (zC (.str x)) := ⟨_, pe_str, ref_c fun _ _ _ => .str x⟩
/-- a module's constant, an int -/
theorem ez_gint {x : Str} {i : Int} {t : Tok} {pos : Pos} (hm : X.mg x = some (.int i t)) (hg : Gl X x := by rfl) (hd : (x == ("__debug__" : Str)) = false := by decide) : EZ C X (.Name x pos) (zC (.int i)) :=
  ⟨_, pe_glob (v := .int i) hg hm ⟨t, rfl⟩ hd, ref_c fun _ _ _ => .int i⟩
/-- a built-in type's name as a value -/
theorem ez_ty {x : Str} {n : String} {pos : Pos} (hm : X.mg x = none) (hv : bootBuiltins x = some (.type n)) (hg : Gl X x := by rfl) (hn : x ≠ "__name__" := by decide) (hd : (x == ("__debug__" : Str)) = false := by decide) : EZ C X (.Name x pos) (zC (.ty n)) :=
  ⟨_, pe_bltn (v := .ty n) hg hm hv rfl hn hd, ref_c fun _ _ _ => .ty n⟩

/-! ### operators -/
def zOp (r : ZR2) (za zb : ZE) : ZE := fun Γ Δ P => za Γ Δ fun x Δ1 => zb Γ Δ1 fun y Δ2 => r x y Δ2 P
def zUn (r : ZR1) (za : ZE) : ZE := fun Γ Δ P => za Γ Δ fun x Δ1 => r x Δ1 P
theorem ref_op {K : PySem.W.Frag} {r : R2} {z : ZR2} {ta tb : TE} {za zb : ZE} (hr : Ref2 K C r z) (ha : RefE K C ta za) (hb : RefE K C tb zb) : RefE K C (tOp r ta tb) (zOp z za zb) := fun S A σ H Γ Δ P Q hs hc hz k =>
  ha S A σ H Γ Δ _ _ hs hc hz fun x dx A1 H1 Δ1 e1 c1 r1 hz1 => hb S A1 σ H1 Γ Δ1 _ _ (hs.ext e1) c1 hz1 fun y dy A2 H2 Δ2 e2 c2 r2 hz2 =>
    hr S A2 H2 Δ2 x y dx dy P Q c2 (r1.ext e2) r2 hz2 fun v d A3 H3 Δ3 e3 c3 r3 p => k v d A3 H3 Δ3 ((e1.trans e2).trans e3) c3 r3 p
theorem ref_un {K : PySem.W.Frag} {r : V → Hp → VK → Prop} {z : ZR1} {ta : TE} {za : ZE} (hr : Ref1 K C r z) (ha : RefE K C ta za) : RefE K C (tUn r ta) (zUn z za) := fun S A σ H Γ Δ P Q hs hc hz k =>
  ha S A σ H Γ Δ _ _ hs hc hz fun x dx A1 H1 Δ1 e1 c1 r1 hz1 => hr S A1 H1 Δ1 x dx P Q c1 r1 hz1 fun v d A3 H3 Δ3 e3 c3 r3 p => k v d A3 H3 Δ3 (e1.trans e3) c3 r3 p
variable {a b c : Expr} {za zb zc : ZE} {pos : Pos}
/-- an operator's rule: what it does by values, and over data -/
structure OpZ (C : CI) (X : Cx) (f : Value → Value → Sem Value) (z : ZR2) : Prop where
  ex : ∃ r, OpR X f r ∧ Ref2 X.K C r z
theorem ez_op {op : Operator} {z : ZR2} (ho : OpZ C X (binaryOp op) z) (ha : EZ C X a za) (hb : EZ C X b zb) : EZ C X (.BinOp a op b pos) (zOp z za zb) := by
  obtain ⟨r, o1, o2⟩ := ho.ex
  obtain ⟨ta, a1, a2⟩ := ha.ex
  obtain ⟨tb, b1, b2⟩ := hb.ex
  exact ⟨_, pe_op o1 a1 b1, ref_op o2 a2 b2⟩
def zI0 (g : Int → Int → D) : ZR2 := fun x y Δ P => ∃ i j, x = .int i ∧ y = .int j ∧ P (g i j) Δ
def zI (Cd : Int → Int → Prop) (g : Int → Int → D) : ZR2 := fun x y Δ P => ∃ i j, x = .int i ∧ y = .int j ∧ Cd i j ∧ P (g i j) Δ
theorem ref_I0 {K : PySem.W.Frag} {g : Int → Int → V} {g' : Int → Int → D} (hg : ∀ i j S A H, Rep K C S A H (g i j) (g' i j)) : Ref2 K C (rI0 g) (zI0 g') := fun S A H Δ x y dx dy P Q hc rx ry hz k => by
  obtain ⟨i, j, rfl, rfl, p⟩ := hz
  cases rx
  cases ry
  exact ⟨i, j, rfl, rfl, k _ _ A H Δ (Ext.refl _ _) hc (hg i j S A H) p⟩
theorem ref_I {K : PySem.W.Frag} {Cd : Int → Int → Prop} {g : Int → Int → V} {g' : Int → Int → D} (hg : ∀ i j S A H, Rep K C S A H (g i j) (g' i j)) : Ref2 K C (rI Cd g) (zI Cd g') := fun S A H Δ x y dx dy P Q hc rx ry hz k => by
  obtain ⟨i, j, rfl, rfl, q, p⟩ := hz
  cases rx
  cases ry
  exact ⟨i, j, rfl, rfl, q, k _ _ A H Δ (Ext.refl _ _) hc (hg i j S A H) p⟩
theorem oz_add : OpZ C X (binaryOp .Add) (zI0 fun i j => .int (i + j)) := ⟨_, op_add, ref_I0 fun _ _ _ _ _ => .int _⟩
theorem oz_sub : OpZ C X (binaryOp .Sub) (zI0 fun i j => .int (i - j)) := ⟨_, op_sub, ref_I0 fun _ _ _ _ _ => .int _⟩
/-- a product that the machine makes -/
def MulOk (i j : Int) : Prop := IntMulOk i j
theorem op_mulA : OpR X (binaryOp .Mult) (rI IntMulOk fun i j => .int (i * j)) := opI fun _ _ _ _ _ _ _ hc q => PyProof.Rows.mul_int q hc
theorem oz_mul : OpZ C X (binaryOp .Mult) (zI MulOk fun i j => .int (i * j)) := ⟨_, op_mulA, ref_I fun _ _ _ _ _ => .int _⟩
theorem oz_fdiv : OpZ C X (binaryOp .FloorDiv) (zI CDivW fun i j => .int (i / j)) := ⟨_, op_fdivW, ref_I fun _ _ _ _ _ => .int _⟩
theorem oz_mod : OpZ C X (binaryOp .Mod) (zI (fun _ j => 0 < j) fun i j => .int (i % j)) := ⟨_, op_mod, ref_I fun _ _ _ _ _ => .int _⟩
theorem oz_pow : OpZ C X (binaryOp .Pow) (zI CPow fun i j => .int (i ^ j.toNat)) := ⟨_, op_pow, ref_I fun _ _ _ _ _ => .int _⟩
/-- products by sizes -/
theorem MulOk.l {i j : Int} (h1 : -(2 ^ 64) < i) (h2 : i < 2 ^ 64) : MulOk i j := CMul.ok (.inl ⟨h1, h2⟩)
theorem MulOk.r {i j : Int} (h1 : -(2 ^ 64) < j) (h2 : j < 2 ^ 64) : MulOk i j := CMul.ok (.inr ⟨h1, h2⟩)
theorem MulOk.w {i j : Int} (a b : Nat) (ha : i.natAbs < 2 ^ a) (hb : j.natAbs < 2 ^ b) (h0 : 0 < a := by decide) (h1 : 0 < b := by decide) (h : a + b ≤ 1000000 := by decide) : MulOk i j := (wide_mul ha hb h0 h1 h).ok
def zNeg : ZR1 := fun x Δ P => ∃ i, x = .int i ∧ P (.int (-i)) Δ
theorem ez_neg (ha : EZ C X a za) : EZ C X (.UnaryOp .USub a pos) (zUn zNeg za) := by
  obtain ⟨ta, a1, a2⟩ := ha.ex
  refine ⟨_, pe_un un_neg a1, ref_un (fun S A H Δ x dx P Q hc rx hz k => ?_) a2⟩
  obtain ⟨i, rfl, p⟩ := hz
  cases rx
  exact ⟨i, rfl, k _ _ A H Δ (Ext.refl _ _) hc (.int _) p⟩

/-! ### comparisons -/
theorem oz_lt : OpZ C X (compareOp .Lt) (zI0 fun i j => .bl (decide (i < j))) := ⟨_, op_lt, ref_I0 fun _ _ _ _ _ => .bl _⟩
theorem oz_le : OpZ C X (compareOp .LtE) (zI0 fun i j => .bl (decide (i ≤ j))) := ⟨_, op_le, ref_I0 fun _ _ _ _ _ => .bl _⟩
theorem oz_gt : OpZ C X (compareOp .Gt) (zI0 fun i j => .bl (decide (j < i))) := ⟨_, op_gt, ref_I0 fun _ _ _ _ _ => .bl _⟩
theorem oz_ge : OpZ C X (compareOp .GtE) (zI0 fun i j => .bl (decide (j ≤ i))) := ⟨_, op_ge, ref_I0 fun _ _ _ _ _ => .bl _⟩
def isNon : D → Bool
  | .non => true
  | _ => false
def zIsN : ZR2 := fun x y Δ P => y = .non ∧ P (.bl (isNon x)) Δ
def zNotN : ZR2 := fun x y Δ P => y = .non ∧ P (.bl (!isNon x)) Δ
theorem Rep.isNon {K : PySem.W.Frag} {S A : List Addr} {H : Hp} {x : V} {d : D} (r : Rep K C S A H x d) : decide (x = .non) = isNon d := by
  cases r <;> first | rfl | simp [Z.isNon]
theorem oz_isN : OpZ C X (compareOp .Is) zIsN := ⟨_, op_isN, fun S A H Δ x y dx dy P Q hc rx ry hz k => by
  obtain ⟨rfl, p⟩ := hz
  cases ry
  refine ⟨rfl, k _ _ A H Δ (Ext.refl _ _) hc ?_ p⟩
  rw [rx.isNon]
  exact .bl _⟩
theorem oz_notN : OpZ C X (compareOp .IsNot) zNotN := ⟨_, op_notN, fun S A H Δ x y dx dy P Q hc rx ry hz k => by
  obtain ⟨rfl, p⟩ := hz
  cases ry
  refine ⟨rfl, k _ _ A H Δ (Ext.refl _ _) hc ?_ p⟩
  rw [rx.isNon]
  exact .bl _⟩

/-! ### plain data: == -/
mutual
def pd : D → PyData
  | .non => .none
  | .bl b => .bool b
  | .int i => .int i
  | .str x => .str x
  | .tup ds => .tuple (pds ds)
  | .lst ds => .list (pds ds)
  | _ => .none
def pds : List D → List PyData
  | [] => []
  | d :: ds => pd d :: pds ds
end
mutual
def plainD : D → Bool
  | .non | .bl _ | .int _ | .str _ => true
  | .tup ds | .lst ds => plainDs ds
  | _ => false
def plainDs : List D → Bool
  | [] => true
  | d :: ds => plainD d && plainDs ds
end
section
variable {K : PySem.W.Frag} {S A : List Addr} {H : Hp}
mutual
theorem Rep.dp : ∀ (d : D) {v : V}, plainD d = true → Rep K C S A H v d → Dp K H v (pd d)
  | .non, _, _, r => by cases r; exact .non
  | .bl b, _, _, r => by cases r; exact .bl b
  | .int i, _, _, r => by cases r; exact .int i
  | .str x, _, _, r => by cases r; exact .str x
  | .tup ds, _, h, r => by cases r with | tup h1 _ _ r => exact .tup (SqT.of h1) (RepL.dp ds h r)
  | .lst ds, _, h, r => by cases r with | lst h1 _ _ r => exact .lst (SqL.of h1) (RepL.dp ds h r)
  | .ty _, _, h, _ => by cases h
  | .ins _ _, _, h, _ => by cases h
  | .cell _, _, h, _ => by cases h
  | .scr _, _, h, _ => by cases h
  | .cls _, _, h, _ => by cases h
  | .dct _ _, _, h, _ => by cases h
theorem RepL.dp : ∀ (ds : List D) {vs : List V}, plainDs ds = true → RepL K C S A H vs ds → DpAll K H vs (pds ds)
  | [], _, _, r => by cases r; exact .nil
  | d :: ds, _, h, r => by
    cases r with
    | cons h1 r =>
      have h' : (plainD d && plainDs ds) = true := h
      rw [Bool.and_eq_true] at h'
      exact .cons (Rep.dp d h'.1 h1) (RepL.dp ds h'.2 r)
end
end
/-- what a value is at the top: a cell's content -/
def rd (Δ : Store) : D → D
  | .cell n => match Δ[n]? with
    | some (.lst ds) => .lst ds
    | _ => .cell n
  | .scr ns => .lst (ns.map D.int)
  | d => d
def shp (d : D) : Bool := plainD d && SeqAt.shaped (pd d)
def eqD (x y : D) : Bool := PyData.eqv (pd x) (pd y)
def zEq : ZR2 := fun x y Δ P => shp (rd Δ x) = true ∧ shp (rd Δ y) = true ∧ P (.bl (eqD (rd Δ x) (rd Δ y))) Δ
def zNe : ZR2 := fun x y Δ P => shp (rd Δ x) = true ∧ shp (rd Δ y) = true ∧ P (.bl (!eqD (rd Δ x) (rd Δ y))) Δ
theorem plain_ints : ∀ ns : List Int, plainDs (ns.map D.int) = true
  | [] => rfl
  | n :: ns => by
    show (plainD (.int n) && plainDs (ns.map D.int)) = true
    rw [plain_ints ns]
    rfl
theorem pds_ints {K : PySem.W.Frag} {H : Hp} : ∀ ns : List Int, DpAll K H (ns.map V.int) (pds (ns.map D.int))
  | [] => .nil
  | n :: ns => .cons (.int n) (pds_ints ns)
theorem dp_rd {K : PySem.W.Frag} {S A : List Addr} {H : Hp} {Δ : Store} {x : V} {d : D} (hc : Cells K C S A H Δ) (r : Rep K C S A H x d) (h : plainD (rd Δ d) = true) : Dp K H x (pd (rd Δ d)) := by
  cases r with
  | cell e =>
    rename_i a n
    unfold rd at h ⊢
    cases q : Δ[n]? with
    | none =>
      simp only [q] at h
      cases h
    | some o =>
      cases o with
      | ins _ _ => simp only [q] at h; cases h
      | dct _ _ => simp only [q] at h; cases h
      | lst ds =>
        simp only [q] at h ⊢
        obtain ⟨xs, h1, h2⟩ := hc.at_ n a _ e q
        exact .lst (SqL.of h1) (RepL.dp ds h h2)
  | scr e =>
    rename_i a ns
    refine .lst ?_ (pds_ints ns)
    rcases e with ⟨⟨o, e⟩, _⟩ | e
    · exact .inl (.inr ⟨o, e⟩)
    · exact .inr e
  | non => exact .non
  | bl b => exact .bl b
  | int i => exact .int i
  | str x => exact .str x
  | ty n => cases h
  | cls n => cases h
  | tup h1 h2 h3 r => exact Rep.dp _ h (.tup h1 h2 h3 r)
  | lst h1 h2 h3 r => exact Rep.dp _ h (.lst h1 h2 h3 r)
  | ins _ _ _ _ _ => cases h
  | dct _ _ _ _ _ => cases h
theorem oz_eq (hu : X.A.units + 64 < cLine) : OpZ C X (compareOp .Eq) zEq := ⟨_, op_eqD hu, fun S A H Δ x y dx dy P Q hc rx ry hz k => by
  obtain ⟨h1, h2, p⟩ := hz
  have g1 := Bool.and_eq_true_iff.mp h1
  have g2 := Bool.and_eq_true_iff.mp h2
  exact ⟨_, _, dp_rd hc rx g1.1, dp_rd hc ry g2.1, g1.2, g2.2, k _ _ A H Δ (Ext.refl _ _) hc (.bl _) p⟩⟩
theorem oz_ne (hu : X.A.units + 64 < cLine) : OpZ C X (compareOp .NotEq) zNe := ⟨_, op_neD hu, fun S A H Δ x y dx dy P Q hc rx ry hz k => by
  obtain ⟨h1, h2, p⟩ := hz
  have g1 := Bool.and_eq_true_iff.mp h1
  have g2 := Bool.and_eq_true_iff.mp h2
  exact ⟨_, _, dp_rd hc rx g1.1, dp_rd hc ry g2.1, g1.2, g2.2, k _ _ A H Δ (Ext.refl _ _) hc (.bl _) p⟩⟩

/-! ### in, not in: flat items -/
def toV : D → V
  | .bl b => .bl b
  | .int i => .int i
  | .str x => .str x
  | _ => .non
def flatD : D → Bool
  | .non | .bl _ | .int _ | .str _ => true
  | _ => false
/-- the items of a list or a tuple -/
def seqD (Δ : Store) : D → Option (List D)
  | .tup ds => some ds
  | .lst ds => some ds
  | .cell n => match Δ[n]? with
    | some (.lst ds) => some ds
    | _ => none
  | .scr ns => some (ns.map D.int)
  | _ => none
theorem Rep.toV {K : PySem.W.Frag} {S A : List Addr} {H : Hp} {x : V} {d : D} (r : Rep K C S A H x d) (h : flatD d = true) : x = Z.toV d ∧ flatV x = true := by
  cases r <;> first | exact ⟨rfl, rfl⟩ | cases h
theorem RepL.toV {K : PySem.W.Frag} {S A : List Addr} {H : Hp} : ∀ {xs : List V} {ds : List D}, RepL K C S A H xs ds → ds.all flatD = true → xs = ds.map Z.toV ∧ xs.all flatV = true
  | _, _, .nil, _ => ⟨rfl, rfl⟩
  | _, _, .cons h r, q => by
    rw [List.all_cons, Bool.and_eq_true] at q
    obtain ⟨h1, h2⟩ := Rep.toV h q.1
    obtain ⟨h3, h4⟩ := RepL.toV r q.2
    exact ⟨by rw [List.map_cons, ← h1, ← h3], by rw [List.all_cons, h2, h4] <;> rfl⟩
theorem repL_ints {K : PySem.W.Frag} {S A : List Addr} {H : Hp} : ∀ ns : List Int, RepL K C S A H (ns.map V.int) (ns.map D.int)
  | [] => .nil
  | n :: ns => .cons (.int n) (repL_ints ns)
/-- a sequence by its items, to be read -/
theorem Rep.seq {K : PySem.W.Frag} {S A : List Addr} {H : Hp} {Δ : Store} {x : V} {d : D} {ds : List D} (hc : Cells K C S A H Δ) (r : Rep K C S A H x d) (h : seqD Δ d = some ds) :
    ∃ p xs, x = .ref p ∧ (SqL K H p xs ∨ SqT K H p xs) ∧ RepL K C S A H xs ds := by
  cases r with
  | tup h1 h2 h3 r => cases h; exact ⟨_, _, rfl, .inr (SqT.of h1), r⟩
  | lst h1 h2 h3 r => cases h; exact ⟨_, _, rfl, .inl (SqL.of h1), r⟩
  | cell e =>
    rename_i a n
    unfold seqD at h
    cases q : Δ[n]? with
    | none => simp only [q] at h; cases h
    | some o =>
      cases o with
      | ins _ _ => simp only [q] at h; cases h
      | dct _ _ => simp only [q] at h; cases h
      | lst es =>
        simp only [q] at h
        cases h
        obtain ⟨xs, h1, h2⟩ := hc.at_ n a _ e q
        exact ⟨a, xs, rfl, .inl (SqL.of h1), h2⟩
  | scr e =>
    rename_i a ns
    cases h
    refine ⟨a, _, rfl, .inl ?_, repL_ints ns⟩
    rcases e with ⟨⟨o, e⟩, _⟩ | e
    · exact .inl (.inr ⟨o, e⟩)
    · exact .inr e
  | _ => cases h
def inD (x : D) (ds : List D) : Bool := inV (toV x) (ds.map toV)
def zIn : ZR2 := fun x y Δ P => ∃ ds, seqD Δ y = some ds ∧ flatD x = true ∧ ds.all flatD = true ∧ P (.bl (inD x ds)) Δ
def zNotIn : ZR2 := fun x y Δ P => ∃ ds, seqD Δ y = some ds ∧ flatD x = true ∧ ds.all flatD = true ∧ P (.bl (!inD x ds)) Δ
theorem oz_in : OpZ C X (compareOp .In) zIn := ⟨_, op_in_seq, fun S A H Δ x y dx dy P Q hc rx ry hz k => by
  obtain ⟨ds, e, f1, f2, p⟩ := hz
  obtain ⟨pa, xs, rfl, hq, r⟩ := Rep.seq hc ry e
  obtain ⟨g1, g2⟩ := Rep.toV rx f1
  obtain ⟨g3, g4⟩ := RepL.toV r f2
  refine ⟨pa, xs, rfl, hq, g2, g4, k _ _ A H Δ (Ext.refl _ _) hc ?_ p⟩
  rw [g1, g3]
  exact .bl _⟩
theorem oz_notIn : OpZ C X (compareOp .NotIn) zNotIn := ⟨_, op_notIn_seq, fun S A H Δ x y dx dy P Q hc rx ry hz k => by
  obtain ⟨ds, e, f1, f2, p⟩ := hz
  obtain ⟨pa, xs, rfl, hq, r⟩ := Rep.seq hc ry e
  obtain ⟨g1, g2⟩ := Rep.toV rx f1
  obtain ⟨g3, g4⟩ := RepL.toV r f2
  refine ⟨pa, xs, rfl, hq, g2, g4, k _ _ A H Δ (Ext.refl _ _) hc ?_ p⟩
  rw [g1, g3]
  exact .bl _⟩

/-! ### comparisons as values and tests; chains -/
theorem ez_cmp {op : CmpOp} {z : ZR2} (ho : OpZ C X (compareOp op) z) (ha : EZ C X a za) (hb : EZ C X b zb) (hm : behindInMarks op b = false := by first | exact nomark _ | rfl | with_unfolding_all rfl) : EZ C X (.Compare a [op] [b] pos) (zOp z za zb) := by
  obtain ⟨r, o1, o2⟩ := ho.ex
  obtain ⟨ta, a1, a2⟩ := ha.ex
  obtain ⟨tb, b1, b2⟩ := hb.ex
  exact ⟨_, pe_cmpR o1 a1 b1 hm, ref_op o2 a2 b2⟩
def zTest (z : ZE) : ZT := fun Γ Δ P => z Γ Δ fun d Δ1 => ∃ k, d = .bl k ∧ P k Δ1
theorem ref_test {K : PySem.W.Frag} {ta : TE} {za : ZE} (ha : RefE K C ta za) : RefT K C (tTest ta) (zTest za) := fun S A σ H Γ Δ P Q hs hc hz k =>
  ha S A σ H Γ Δ _ _ hs hc hz fun v d A1 H1 Δ1 e1 c1 r1 hz1 => by
    obtain ⟨b, rfl, p⟩ := hz1
    cases r1
    exact ⟨b, rfl, k b A1 H1 Δ1 e1 c1 p⟩
theorem tz_cmp {op : CmpOp} {z : ZR2} (ho : OpZ C X (compareOp op) z) (ha : EZ C X a za) (hb : EZ C X b zb) (hm : behindInMarks op b = false := by first | exact nomark _ | rfl | with_unfolding_all rfl) : TZ C X (.Compare a [op] [b] pos) (zTest (zOp z za zb)) := by
  obtain ⟨r, o1, o2⟩ := ho.ex
  obtain ⟨ta, a1, a2⟩ := ha.ex
  obtain ⟨tb, b1, b2⟩ := hb.ex
  exact ⟨_, pt_cmpR o1 a1 b1 hm, ref_test (ref_op o2 a2 b2)⟩
/-- an expression that gives a bool, as a test -/
theorem tz_val {e : Expr} {z : ZE} (h : EZ C X e z) (he : ∀ whole, isTrue e X.env whole = (do let v ← whole; standAt e.pos; holding [v] (truthy v)) := by intro _; rfl) : TZ C X e (zTest z) := by
  obtain ⟨te, e1, e2⟩ := h.ex
  exact ⟨_, pt_val e1 he, ref_test e2⟩
def zChain (r r' : ZR2) (za zb zc : ZE) : ZE := fun Γ Δ P => za Γ Δ fun x Δ1 => zb Γ Δ1 fun y Δ2 => r x y Δ2 fun z Δ3 => ∃ k, z = .bl k ∧ (k = true → zc Γ Δ3 fun w Δ4 => r' y w Δ4 P) ∧ (k = false → P (.bl false) Δ3)
theorem ref_chain {K : PySem.W.Frag} {r r' : R2} {z z' : ZR2} {ta tb tc : TE} (hr : Ref2 K C r z) (hr' : Ref2 K C r' z') (ha : RefE K C ta za) (hb : RefE K C tb zb) (hc' : RefE K C tc zc) : RefE K C (tChain r r' ta tb tc) (zChain z z' za zb zc) := fun S A σ H Γ Δ P Q hs hc hz k =>
  ha S A σ H Γ Δ _ _ hs hc hz fun x dx A1 H1 Δ1 e1 c1 r1 hz1 => hb S A1 σ H1 Γ Δ1 _ _ (hs.ext e1) c1 hz1 fun y dy A2 H2 Δ2 e2 c2 r2 hz2 =>
    hr S A2 H2 Δ2 x y dx dy _ _ c2 (r1.ext e2) r2 hz2 fun v d A3 H3 Δ3 e3 c3 r3 p => by
      obtain ⟨b, rfl, p1, p2⟩ := p
      cases r3
      refine ⟨b, rfl, ?_⟩
      have e13 := (e1.trans e2).trans e3
      cases b with
      | false => exact iteF (k _ _ A3 H3 Δ3 e13 c3 (.bl _) (p2 rfl))
      | true => exact iteT (hc' S A3 σ H3 Γ Δ3 _ _ (hs.ext e13) c3 (p1 rfl) fun w dw A4 H4 Δ4 e4 c4 r4 p4 => hr' S A4 H4 Δ4 y w dy dw P Q c4 ((r2.ext e3).ext e4) r4 p4 fun v d A5 H5 Δ5 e5 c5 r5 p5 => k v d A5 H5 Δ5 ((e13.trans e4).trans e5) c5 r5 p5)
theorem ez_chain {op op' : CmpOp} {z z' : ZR2} (ho : OpZ C X (compareOp op) z) (ho' : OpZ C X (compareOp op') z') (ha : EZ C X a za) (hb : EZ C X b zb) (hc : EZ C X c zc) (hm : lastMarks [op, op'] [b, c] = false := by with_unfolding_all rfl) :
    EZ C X (.Compare a [op, op'] [b, c] pos) (zChain z z' za zb zc) := by
  obtain ⟨r, o1, o2⟩ := ho.ex
  obtain ⟨r', o1', o2'⟩ := ho'.ex
  obtain ⟨ta, a1, a2⟩ := ha.ex
  obtain ⟨tb, b1, b2⟩ := hb.ex
  obtain ⟨tc, c1, c2⟩ := hc.ex
  exact ⟨_, pe_chain o1 o1' a1 b1 c1 hm, ref_chain o2 o2' a2 b2 c2⟩
theorem tz_chain {op op' : CmpOp} {z z' : ZR2} (ho : OpZ C X (compareOp op) z) (ho' : OpZ C X (compareOp op') z') (ha : EZ C X a za) (hb : EZ C X b zb) (hc : EZ C X c zc) (hm : lastMarks [op, op'] [b, c] = false := by with_unfolding_all rfl) :
    TZ C X (.Compare a [op, op'] [b, c] pos) (zTest (zChain z z' za zb zc)) := by
  obtain ⟨r, o1, o2⟩ := ho.ex
  obtain ⟨r', o1', o2'⟩ := ho'.ex
  obtain ⟨ta, a1, a2⟩ := ha.ex
  obtain ⟨tb, b1, b2⟩ := hb.ex
  obtain ⟨tc, c1, c2⟩ := hc.ex
  exact ⟨_, pt_chain o1 o1' a1 b1 c1 hm, ref_test (ref_chain o2 o2' a2 b2 c2)⟩

/-! ### and, or, not, if -/
variable {tA tB' : ZT} {rest : List Expr}
def zAnd (t u : ZT) : ZT := fun Γ Δ P => t Γ Δ fun c Δ1 => (c = true → u Γ Δ1 P) ∧ (c = false → P false Δ1)
def zOr (t u : ZT) : ZT := fun Γ Δ P => t Γ Δ fun c Δ1 => (c = true → P true Δ1) ∧ (c = false → u Γ Δ1 P)
def zNot (t : ZT) : ZT := fun Γ Δ P => t Γ Δ fun c Δ1 => P (!c) Δ1
theorem wz_and1 (ha : TZ C X a tA) : WZ C X (.BoolOp .And [a] pos) tA := by
  obtain ⟨t, h1, h2⟩ := ha.ex
  exact ⟨t, pw_and1 h1, h2⟩
theorem wz_or1 (ha : TZ C X a tA) : WZ C X (.BoolOp .Or [a] pos) tA := by
  obtain ⟨t, h1, h2⟩ := ha.ex
  exact ⟨t, pw_or1 h1, h2⟩
theorem wz_and (ha : TZ C X a tA) (hb : WZ C X (.BoolOp .And (b :: rest) pos) tB') : WZ C X (.BoolOp .And (a :: b :: rest) pos) (zAnd tA tB') := by
  obtain ⟨t, a1, a2⟩ := ha.ex
  obtain ⟨u, b1, b2⟩ := hb.ex
  refine ⟨_, pw_and a1 b1, fun S A σ H Γ Δ P Q hs hc hz k => a2 S A σ H Γ Δ _ _ hs hc hz fun c A1 H1 Δ1 e1 c1 hz1 => ?_⟩
  cases c with
  | true => exact iteT (b2 S A1 σ H1 Γ Δ1 P Q (hs.ext e1) c1 (hz1.1 rfl) fun d A2 H2 Δ2 e2 c2 p => k d A2 H2 Δ2 (e1.trans e2) c2 p)
  | false => exact iteF (k _ A1 H1 Δ1 e1 c1 (hz1.2 rfl))
theorem wz_or (ha : TZ C X a tA) (hb : WZ C X (.BoolOp .Or (b :: rest) pos) tB') : WZ C X (.BoolOp .Or (a :: b :: rest) pos) (zOr tA tB') := by
  obtain ⟨t, a1, a2⟩ := ha.ex
  obtain ⟨u, b1, b2⟩ := hb.ex
  refine ⟨_, pw_or a1 b1, fun S A σ H Γ Δ P Q hs hc hz k => a2 S A σ H Γ Δ _ _ hs hc hz fun c A1 H1 Δ1 e1 c1 hz1 => ?_⟩
  cases c with
  | true => exact iteT (k _ A1 H1 Δ1 e1 c1 (hz1.1 rfl))
  | false => exact iteF (b2 S A1 σ H1 Γ Δ1 P Q (hs.ext e1) c1 (hz1.2 rfl) fun d A2 H2 Δ2 e2 c2 p => k d A2 H2 Δ2 (e1.trans e2) c2 p)
theorem tz_not (ha : TZ C X a tA) : TZ C X (.UnaryOp .Not a pos) (zNot tA) := by
  obtain ⟨t, a1, a2⟩ := ha.ex
  exact ⟨_, pt_not a1, fun S A σ H Γ Δ P Q hs hc hz k => a2 S A σ H Γ Δ _ _ hs hc hz fun c A1 H1 Δ1 e1 c1 hz1 => k _ A1 H1 Δ1 e1 c1 hz1⟩
/-- values -/
def zAndV (za zb : ZE) : ZE := fun Γ Δ P => za Γ Δ fun x Δ1 => ∃ c, x = .bl c ∧ (c = true → zb Γ Δ1 P) ∧ (c = false → P (.bl false) Δ1)
def zOrV (za zb : ZE) : ZE := fun Γ Δ P => za Γ Δ fun x Δ1 => ∃ c, x = .bl c ∧ (c = true → P (.bl true) Δ1) ∧ (c = false → zb Γ Δ1 P)
def zNotV (za : ZE) : ZE := fun Γ Δ P => za Γ Δ fun x Δ1 => ∃ c, x = .bl c ∧ P (.bl (!c)) Δ1
theorem ez_one {op} {z : ZE} (h : EZ C X a z) : EZ C X (.BoolOp op [a] pos) z := by
  obtain ⟨t, h1, h2⟩ := h.ex
  exact ⟨t, pe_one h1, h2⟩
theorem ez_and (ha : EZ C X a za) (hb : EZ C X (.BoolOp .And (b :: rest) pos) zb) : EZ C X (.BoolOp .And (a :: b :: rest) pos) (zAndV za zb) := by
  obtain ⟨t, a1, a2⟩ := ha.ex
  obtain ⟨u, b1, b2⟩ := hb.ex
  refine ⟨_, pe_and a1 b1, fun S A σ H Γ Δ P Q hs hc hz k => a2 S A σ H Γ Δ _ _ hs hc hz fun x dx A1 H1 Δ1 e1 c1 r1 hz1 => ?_⟩
  obtain ⟨c, rfl, p1, p2⟩ := hz1
  cases r1
  refine ⟨c, rfl, ?_⟩
  cases c with
  | true => exact iteT (b2 S A1 σ H1 Γ Δ1 P Q (hs.ext e1) c1 (p1 rfl) fun v d A2 H2 Δ2 e2 c2 r2 p => k v d A2 H2 Δ2 (e1.trans e2) c2 r2 p)
  | false => exact iteF (k _ _ A1 H1 Δ1 e1 c1 (.bl _) (p2 rfl))
theorem ez_or (ha : EZ C X a za) (hb : EZ C X (.BoolOp .Or (b :: rest) pos) zb) : EZ C X (.BoolOp .Or (a :: b :: rest) pos) (zOrV za zb) := by
  obtain ⟨t, a1, a2⟩ := ha.ex
  obtain ⟨u, b1, b2⟩ := hb.ex
  refine ⟨_, pe_or a1 b1, fun S A σ H Γ Δ P Q hs hc hz k => a2 S A σ H Γ Δ _ _ hs hc hz fun x dx A1 H1 Δ1 e1 c1 r1 hz1 => ?_⟩
  obtain ⟨c, rfl, p1, p2⟩ := hz1
  cases r1
  refine ⟨c, rfl, ?_⟩
  cases c with
  | false => exact iteF (b2 S A1 σ H1 Γ Δ1 P Q (hs.ext e1) c1 (p2 rfl) fun v d A2 H2 Δ2 e2 c2 r2 p => k v d A2 H2 Δ2 (e1.trans e2) c2 r2 p)
  | true => exact iteT (k _ _ A1 H1 Δ1 e1 c1 (.bl _) (p1 rfl))
theorem ez_not (ha : EZ C X a za) : EZ C X (.UnaryOp .Not a pos) (zNotV za) := by
  obtain ⟨t, a1, a2⟩ := ha.ex
  refine ⟨_, pe_not a1, fun S A σ H Γ Δ P Q hs hc hz k => a2 S A σ H Γ Δ _ _ hs hc hz fun x dx A1 H1 Δ1 e1 c1 r1 hz1 => ?_⟩
  obtain ⟨c, rfl, p⟩ := hz1
  cases r1
  exact ⟨c, rfl, k _ _ A1 H1 Δ1 e1 c1 (.bl _) p⟩
def zIf (t : ZT) (za zb : ZE) : ZE := fun Γ Δ P => t Γ Δ fun c Δ1 => (c = true → za Γ Δ1 P) ∧ (c = false → zb Γ Δ1 P)
theorem ez_if {c : Expr} (hc : TZ C X c tA) (ha : EZ C X a za) (hb : EZ C X b zb) : EZ C X (.IfExp c a b pos) (zIf tA za zb) := by
  obtain ⟨t, t1, t2⟩ := hc.ex
  obtain ⟨ta, a1, a2⟩ := ha.ex
  obtain ⟨tb, b1, b2⟩ := hb.ex
  refine ⟨_, pe_ifExp t1 a1 b1, fun S A σ H Γ Δ P Q hs hc hz k => t2 S A σ H Γ Δ _ _ hs hc hz fun d A1 H1 Δ1 e1 c1 hz1 => ?_⟩
  cases d with
  | true => exact iteT (a2 S A1 σ H1 Γ Δ1 P Q (hs.ext e1) c1 (hz1.1 rfl) fun v d A2 H2 Δ2 e2 c2 r2 p => k v d A2 H2 Δ2 (e1.trans e2) c2 r2 p)
  | false => exact iteF (b2 S A1 σ H1 Γ Δ1 P Q (hs.ext e1) c1 (hz1.2 rfl) fun v d A2 H2 Δ2 e2 c2 r2 p => k v d A2 H2 Δ2 (e1.trans e2) c2 r2 p)

/-! ### argument lists, displays -/
variable {e : Expr} {es : List Expr} {ze : ZE} {zs : ZA}
def zNil : ZA := fun _ Δ P => P [] Δ
def zCons (z : ZE) (zs : ZA) : ZA := fun Γ Δ P => z Γ Δ fun d Δ1 => zs Γ Δ1 fun ds Δ2 => P (d :: ds) Δ2
theorem az_nil : AZ C X [] zNil := ⟨_, pa_nil, fun S A σ H Γ Δ P Q hs hc hz k => k [] [] A H Δ (Ext.refl _ _) hc .nil hz⟩
theorem az_cons (ha : EZ C X e ze) (hr : AZ C X es zs) (hst : starEach (e :: es) X.env = (false, eval e X.env) :: starEach es X.env := by rfl) : AZ C X (e :: es) (zCons ze zs) := by
  obtain ⟨t, a1, a2⟩ := ha.ex
  obtain ⟨u, b1, b2⟩ := hr.ex
  exact ⟨_, pa_cons a1 b1 hst, fun S A σ H Γ Δ P Q hs hc hz k => a2 S A σ H Γ Δ _ _ hs hc hz fun x dx A1 H1 Δ1 e1 c1 r1 hz1 =>
    b2 S A1 σ H1 Γ Δ1 _ _ (hs.ext e1) c1 hz1 fun vs ds A2 H2 Δ2 e2 c2 r2 p => k _ _ A2 H2 Δ2 (e1.trans e2) c2 (.cons (r1.ext e2) r2) p⟩
def zTup (zs : ZA) : ZE := fun Γ Δ P => zs Γ Δ fun ds Δ1 => ds.length ≤ 100000 ∧ P (.tup ds) Δ1
def zLst (zs : ZA) : ZE := fun Γ Δ P => zs Γ Δ fun ds Δ1 => ds.length ≤ 100000 ∧ P (.lst ds) Δ1
/-- a display that is changed later -/
def zLstC (zs : ZA) : ZE := fun Γ Δ P => zs Γ Δ fun ds Δ1 => ds.length ≤ 100000 ∧ P (.cell Δ1.length) (Δ1 ++ [.lst ds])
theorem sz100 {n : Nat} (h : n ≤ 100000) : n ≤ sizeLine := Nat.le_trans h (by decide)
section
variable {K : PySem.W.Frag} {S A : List Addr} {H : Hp} {Δ : Store}
theorem Cells.new (hc : Cells K C S A H Δ) {p : Addr} {o : HO} (h : H p = none) : Cells K C S A (upd H p o) Δ := hc.kept fun a u e => by rw [upd_ne (ne_of_none e h)]; exact e
theorem Cells.fresh (hc : Cells K C S A H Δ) {p : Addr} (h : H p = none) : p ∉ A := fun hp => by
  obtain ⟨n, hn⟩ := List.mem_iff_getElem?.mp hp
  have hl : n < Δ.length := by rw [← hc.len]; exact (List.getElem?_eq_some_iff.mp hn).1
  exact (hc.at_ n p _ hn (List.getElem?_eq_getElem hl)).trk h
theorem Cells.aside (hc : Cells K C S A H Δ) {p : Addr} (h : H p = none) : p ∉ S := fun hp => hc.as p hp h
end
theorem ez_tup {x1} (h : AZ C X es zs) : EZ C X (.Tuple es x1 pos) (zTup zs) := by
  obtain ⟨t, h1, h2⟩ := h.ex
  refine ⟨_, pe_tup h1, fun S A σ H Γ Δ P Q hs hc hz k => h2 S A σ H Γ Δ _ _ hs hc hz fun vs ds A1 H1 Δ1 e1 c1 r1 hz1 => ?_⟩
  refine ⟨sz100 (by rw [r1.length]; exact hz1.1), fun p hp => ?_⟩
  exact k _ _ A1 _ Δ1 (e1.trans (Ext.new hp)) (c1.new hp) (.tup upd_same (c1.fresh hp) (c1.aside hp) (r1.ext (Ext.new hp))) hz1.2
theorem ez_lst (h : AZ C X es zs) : EZ C X (.List es pos) (zLst zs) := by
  obtain ⟨t, h1, h2⟩ := h.ex
  refine ⟨_, pe_lst h1, fun S A σ H Γ Δ P Q hs hc hz k => h2 S A σ H Γ Δ _ _ hs hc hz fun vs ds A1 H1 Δ1 e1 c1 r1 hz1 => ?_⟩
  refine ⟨sz100 (by rw [r1.length]; exact hz1.1), fun p hp => ?_⟩
  exact k _ _ A1 _ Δ1 (e1.trans (Ext.new hp)) (c1.new hp) (.lst upd_same (c1.fresh hp) (c1.aside hp) (r1.ext (Ext.new hp))) hz1.2
section
variable {K : PySem.W.Frag} {S A : List Addr} {H : Hp} {Δ : Store}
/-- a new object becomes a cell -/
theorem Cells.newO (hc : Cells K C S A H Δ) {p : Addr} {u : HO} {o : O} (h : H p = none) (r : CellAt K C S (A ++ [p]) (upd H p u) p o) : Cells K C S (A ++ [p]) (upd H p u) (Δ ++ [o]) := by
  have e := Ext.newCell (A := A) (o := u) h
  refine ⟨by rw [List.length_append, List.length_append, hc.len] <;> rfl, ?_, ?_, ?_, ?_⟩
  · refine List.nodup_append.mpr ⟨hc.nd, by simp, fun a ha b hb => ?_⟩
    rw [List.mem_singleton] at hb
    subst hb
    exact fun q => hc.fresh h (q ▸ ha)
  · intro a ha
    rcases List.mem_append.mp ha with ha | ha
    · exact hc.dj a ha
    · rw [List.mem_singleton] at ha
      subst ha
      exact hc.aside h
  · intro a ha q
    exact hc.as a ha (e.trk a q)
  · intro n a w h1 h2
    by_cases hn : n < A.length
    · rw [List.getElem?_append_left hn] at h1
      rw [List.getElem?_append_left (by rw [← hc.len]; exact hn)] at h2
      exact (hc.at_ n a w h1 h2).mono e.mo fun y q => by rw [upd_ne (ne_of_none q h)]; exact q
    · have hn2 : n = A.length := by
        have := (List.getElem?_eq_some_iff.mp h1).1
        rw [List.length_append] at this
        simp at this
        omega
      subst hn2
      rw [List.getElem?_append_right (Nat.le_refl _), Nat.sub_self] at h1
      rw [hc.len, List.getElem?_append_right (Nat.le_refl _), Nat.sub_self] at h2
      simp at h1 h2
      subst h1
      subst h2
      exact r
theorem Cells.newCell (hc : Cells K C S A H Δ) {p : Addr} {xs : List V} {ds : List D} (h : H p = none) (r : RepL K C S A H xs ds) : Cells K C S (A ++ [p]) (upd H p (.lst xs)) (Δ ++ [.lst ds]) :=
  hc.newO h ⟨xs, upd_same, r.ext (Ext.newCell h)⟩
/-- a cell's content is replaced -/
theorem Cells.putO (hc : Cells K C S A H Δ) {n : Nat} {p : Addr} {u : HO} {o : O} (h : A[n]? = some p) (r : CellAt K C S A (upd H p u) p o) : Cells K C S A (upd H p u) (Δ.set n o) ∧ Ext A H A (upd H p u) := by
  have hl : n < Δ.length := by rw [← hc.len]; exact (List.getElem?_eq_some_iff.mp h).1
  have hp : p ∈ A := List.mem_of_getElem? h
  have hne : H p ≠ none := (hc.at_ n p _ h (List.getElem?_eq_getElem hl)).trk
  have e : Ext A H A (upd H p u) := Ext.write hp hne
  refine ⟨⟨by rw [List.length_set]; exact hc.len, hc.nd, hc.dj, fun a ha q => hc.as a ha (e.trk a q), fun m a w h1 h2 => ?_⟩, e⟩
  by_cases hm : m = n
  · subst hm
    rw [h] at h1
    cases h1
    rw [List.getElem?_set_self hl] at h2
    cases h2
    exact r
  · rw [List.getElem?_set_ne (Ne.symm hm)] at h2
    have hap : a ≠ p := fun q => hm (by
      subst q
      obtain ⟨l1, q1⟩ := List.getElem?_eq_some_iff.mp h1
      obtain ⟨l2, q2⟩ := List.getElem?_eq_some_iff.mp h
      exact (List.getElem_inj hc.nd).mp (q1.trans q2.symm))
    exact (hc.at_ m a w h1 h2).mono e.mo fun y q => by rw [upd_ne hap]; exact q
theorem Cells.put (hc : Cells K C S A H Δ) {n : Nat} {p : Addr} {xs : List V} {ds : List D} (h : A[n]? = some p) (r : RepL K C S A H xs ds) : Cells K C S A (upd H p (.lst xs)) (Δ.set n (.lst ds)) ∧ Ext A H A (upd H p (.lst xs)) := by
  have hl : n < Δ.length := by rw [← hc.len]; exact (List.getElem?_eq_some_iff.mp h).1
  have hp : p ∈ A := List.mem_of_getElem? h
  have e : Ext A H A (upd H p (.lst xs)) := Ext.write hp (hc.at_ n p _ h (List.getElem?_eq_getElem hl)).trk
  exact hc.putO h ⟨xs, upd_same, r.ext e⟩
end
theorem ez_lstC (h : AZ C X es zs) : EZ C X (.List es pos) (zLstC zs) := by
  obtain ⟨t, h1, h2⟩ := h.ex
  refine ⟨_, pe_lst h1, fun S A σ H Γ Δ P Q hs hc hz k => h2 S A σ H Γ Δ _ _ hs hc hz fun vs ds A1 H1 Δ1 e1 c1 r1 hz1 => ?_⟩
  refine ⟨sz100 (by rw [r1.length]; exact hz1.1), fun p hp => ?_⟩
  refine k _ _ (A1 ++ [p]) _ _ (e1.trans (Ext.newCell hp)) (c1.newCell hp r1) (.cell ?_) hz1.2
  rw [← c1.len, List.getElem?_append_right (Nat.le_refl _), Nat.sub_self]
  rfl

/-! ### subscripts, slices -/
def zIx : ZR2 := fun x y Δ P => ∃ ds i d, y = .int i ∧ seqD Δ x = some ds ∧ atI ds i = some d ∧ P d Δ
theorem atI_rep {K : PySem.W.Frag} {S A : List Addr} {H : Hp} {xs : List V} {ds : List D} {i : Int} {d : D} (r : RepL K C S A H xs ds) (h : atI ds i = some d) : ∃ v, atI xs i = some v ∧ Rep K C S A H v d := by
  unfold atI at h ⊢
  rw [r.length]
  cases q : ixN ds.length i with
  | none => rw [q] at h; cases h
  | some j =>
    rw [q] at h
    obtain ⟨v, h1, h2⟩ := r.get (show ds[j]? = some d from h)
    exact ⟨v, h1, h2⟩
theorem ez_ix (ha : EZ C X a za) (hb : EZ C X b zb) (hp : PlainIx b := by exact fun _ _ => rfl) : EZ C X (.Subscript a b pos) (zOp zIx za zb) := by
  obtain ⟨ta, a1, a2⟩ := ha.ex
  obtain ⟨tb, b1, b2⟩ := hb.ex
  refine ⟨_, pe_ix (ix_list.or ix_tup) a1 b1 hp, ref_op (fun S A H Δ x y dx dy P Q hc rx ry hz k => ?_) a2 b2⟩
  obtain ⟨ds, i, d, rfl, e, g, p⟩ := hz
  obtain ⟨pa, xs, rfl, hq, r⟩ := Rep.seq hc rx e
  cases ry
  obtain ⟨v, h1, h2⟩ := atI_rep r g
  have fin := k v d A H Δ (Ext.refl _ _) hc h2 p
  rcases hq with hq | hq
  · exact .inl ⟨pa, xs, i, v, rfl, rfl, hq, h1, fin⟩
  · exact .inr ⟨pa, xs, i, v, rfl, rfl, hq, h1, fin⟩
abbrev ZO := Env → Store → (Option Int → Store → Prop) → Prop
structure OZ (C : CI) (X : Cx) (e : Option Expr) (z : ZO) : Prop where
  ex : ∃ t, PO X e t ∧ ∀ (S A : List Addr) (σ : L2.St) (H : Hp) (Γ : Env) (Δ : Store) (P : Option Int → Store → Prop) (Q : Option Int → Hp → Prop), Slots X.K C S A H σ Γ → Cells X.K C S A H Δ → z Γ Δ P →
    (∀ o A' H' Δ', Ext A H A' H' → Cells X.K C S A' H' Δ' → P o Δ' → Q o H') → t σ H Q
def zNoPart : ZO := fun _ Δ P => P none Δ
def zPart (z : ZE) : ZO := fun Γ Δ P => z Γ Δ fun d Δ1 => ∃ i, d = .int i ∧ P (some i) Δ1
theorem oz_none : OZ C X none zNoPart := ⟨_, po_none, fun S A σ H Γ Δ P Q hs hc hz k => k none A H Δ (Ext.refl _ _) hc hz⟩
theorem oz_some {z : ZE} (h : EZ C X e z) : OZ C X (some e) (zPart z) := by
  obtain ⟨t, h1, h2⟩ := h.ex
  refine ⟨_, po_some h1, fun S A σ H Γ Δ P Q hs hc hz k => h2 S A σ H Γ Δ _ _ hs hc hz fun v d A1 H1 Δ1 e1 c1 r1 hz1 => ?_⟩
  obtain ⟨i, rfl, p⟩ := hz1
  cases r1
  exact ⟨i, rfl, k _ A1 H1 Δ1 e1 c1 p⟩
/-- the items from lo to hi -/
def cutD (xs : List D) (lo hi : Option Int) : List D := (xs.drop (HT.sIx xs.length 0 lo)).take (HT.sIx xs.length xs.length hi - HT.sIx xs.length 0 lo)
def zSl (z : ZE) (zl zh : ZO) : ZE := fun Γ Δ P => z Γ Δ fun x Δ1 => zl Γ Δ1 fun l Δ2 => zh Γ Δ2 fun u Δ3 => ∃ ds, (x = .lst ds ∨ (∃ n, x = .cell n ∧ Δ3[n]? = some (.lst ds)) ∨ ∃ ns, x = .scr ns ∧ ds = ns.map D.int) ∧ P (.lst (cutD ds l u)) Δ3
theorem ez_sl {lo hi : Option Expr} {zl zh : ZO} {p2 : Pos} (ha : EZ C X a za) (hl : OZ C X lo zl) (hh : OZ C X hi zh) : EZ C X (.Subscript a (.Slice lo hi none p2) pos) (zSl za zl zh) := by
  obtain ⟨t, a1, a2⟩ := ha.ex
  obtain ⟨tl, l1, l2⟩ := hl.ex
  obtain ⟨th, u1, u2⟩ := hh.ex
  refine ⟨_, pe_slice sl_list a1 l1 u1, fun S A σ H Γ Δ P Q hs hc hz k => a2 S A σ H Γ Δ _ _ hs hc hz fun x dx A1 H1 Δ1 e1 c1 r1 hz1 => ?_⟩
  refine l2 S A1 σ H1 Γ Δ1 _ _ (hs.ext e1) c1 hz1 fun l A2 H2 Δ2 e2 c2 hz2 => u2 S A2 σ H2 Γ Δ2 _ _ ((hs.ext e1).ext e2) c2 hz2 fun u A3 H3 Δ3 e3 c3 hz3 => ?_
  obtain ⟨ds, hd, p⟩ := hz3
  have r3 := (r1.ext e2).ext e3
  have hq : ∃ pa xs, x = .ref pa ∧ SqL X.K H3 pa xs ∧ RepL X.K C S A3 H3 xs ds := by
    rcases hd with rfl | ⟨n, rfl, hd⟩ | ⟨ns, rfl, rfl⟩
    · cases r3 with
      | lst g1 _ _ g4 => exact ⟨_, _, rfl, SqL.of g1, g4⟩
    · cases r3 with
      | cell g =>
        obtain ⟨xs, g1, g2⟩ := c3.at_ n _ _ g hd
        exact ⟨_, _, rfl, SqL.of g1, g2⟩
    · cases r3 with
      | scr g =>
        refine ⟨_, _, rfl, ?_, repL_ints ns⟩
        rcases g with ⟨⟨o, g⟩, _⟩ | g
        · exact .inl (.inr ⟨o, g⟩)
        · exact .inr g
  obtain ⟨pa, xs, rfl, hS, r⟩ := hq
  have hcut : RepL X.K C S A3 H3 (cutV xs l u) (cutD ds l u) := by
    unfold cutV cutD
    rw [r.length]
    exact (r.drop _).take _
  refine ⟨pa, xs, rfl, hS, fun q hq => ?_⟩
  have e4 := Ext.new (A := A3) (o := .lst (cutV xs l u)) hq
  exact k _ _ A3 _ Δ3 (((e1.trans e2).trans e3).trans e4) (c3.new hq) (.lst upd_same (c3.fresh hq) (c3.aside hq) (hcut.ext e4)) p
/-- a list of the Δ's that is not the script, to be joined -/
def lstD (Δ : Store) : D → Option (List D)
  | .lst ds => some ds
  | .cell n => match Δ[n]? with
    | some (.lst ds) => some ds
    | _ => none
  | _ => none
theorem Rep.lst_ {K : PySem.W.Frag} {S A : List Addr} {H : Hp} {Δ : Store} {x : V} {d : D} {ds : List D} (hc : Cells K C S A H Δ) (r : Rep K C S A H x d) (h : lstD Δ d = some ds) :
    ∃ p xs, x = .ref p ∧ H p = some (.lst xs) ∧ RepL K C S A H xs ds := by
  cases r with
  | lst h1 h2 h3 r => cases h; exact ⟨_, _, rfl, h1, r⟩
  | cell e =>
    rename_i a n
    unfold lstD at h
    cases q : Δ[n]? with
    | none => simp only [q] at h; cases h
    | some o =>
      cases o with
      | ins _ _ => simp only [q] at h; cases h
      | dct _ _ => simp only [q] at h; cases h
      | lst es =>
        simp only [q] at h
        cases h
        obtain ⟨xs, h1, h2⟩ := hc.at_ n a _ e q
        exact ⟨a, xs, rfl, h1, h2⟩
  | _ => cases h
/-- xs + ys | ints -/
def zAddA : ZR2 := fun x y Δ P => (∃ i j, x = .int i ∧ y = .int j ∧ P (.int (i + j)) Δ) ∨ ∃ ds es, lstD Δ x = some ds ∧ lstD Δ y = some es ∧ ds.length + es.length ≤ 100000 ∧ P (.lst (ds ++ es)) Δ
theorem OpR.or {f : Value → Value → Sem Value} {r r' : R2} (h : OpR X f r) (h' : OpR X f r') : OpR X f (fun x y H Q => r x y H Q ∨ r' x y H Q) := fun pins s σ H x y v u Q I rx ry q => q.elim (h pins s σ H x y v u Q I rx ry) (h' pins s σ H x y v u Q I rx ry)
def zCat : ZR2 := fun x y Δ P => ∃ ds es, lstD Δ x = some ds ∧ lstD Δ y = some es ∧ ds.length + es.length ≤ 100000 ∧ P (.lst (ds ++ es)) Δ
theorem ref_cat {K : PySem.W.Frag} : Ref2 K C rCat zCat := fun S A H Δ x y dx dy P Q hc rx ry hz k => by
  obtain ⟨ds, es, h1, h2, hl, p⟩ := hz
  obtain ⟨a, xs, rfl, g1, g2⟩ := Rep.lst_ hc rx h1
  obtain ⟨b, ys, rfl, g3, g4⟩ := Rep.lst_ hc ry h2
  refine ⟨a, b, xs, ys, rfl, rfl, g1, g3, sz100 (by rw [g2.length, g4.length]; exact hl), fun q hq => ?_⟩
  have e := Ext.new (A := A) (o := .lst (xs ++ ys)) hq
  exact k _ _ A _ Δ e (hc.new hq) (.lst upd_same (hc.fresh hq) (hc.aside hq) ((g2.append g4).ext e)) p
theorem oz_cat : OpZ C X (binaryOp .Add) zCat := ⟨_, op_cat, ref_cat⟩
theorem oz_addA : OpZ C X (binaryOp .Add) zAddA := ⟨_, op_add.or op_cat, fun S A H Δ x y dx dy P Q hc rx ry hz k => by
  rcases hz with ⟨i, j, h1, h2, p⟩ | hz
  · exact .inl (ref_I0 (g' := fun i j => .int (i + j)) (fun i j _ _ _ => .int _) S A H Δ x y dx dy P Q hc rx ry ⟨i, j, h1, h2, p⟩ k)
  · exact .inr (ref_cat S A H Δ x y dx dy P Q hc rx ry hz k)⟩
def zRepeat : ZR2 := fun x y Δ P => ∃ ds k, lstD Δ x = some ds ∧ y = .int k ∧ -(2 ^ 63) ≤ k ∧ k < 2 ^ 63 ∧ ds.length * k.toNat ≤ 100000 ∧ P (.lst (List.replicate k.toNat ds).flatten) Δ
theorem oz_rep : OpZ C X (binaryOp .Mult) zRepeat := ⟨_, op_rep, fun S A H Δ x y dx dy P Q hc rx ry hz k => by
  obtain ⟨ds, i, h1, rfl, h2, h3, hl, p⟩ := hz
  obtain ⟨a, xs, rfl, g1, g2⟩ := Rep.lst_ hc rx h1
  cases ry
  refine ⟨a, i, xs, rfl, rfl, g1, h2, h3, sz100 (by rw [g2.length]; exact hl), fun q hq => ?_⟩
  have e := Ext.new (A := A) (o := .lst (List.replicate i.toNat xs).flatten) hq
  exact k _ _ A _ Δ e (hc.new hq) (.lst upd_same (hc.fresh hq) (hc.aside hq) ((g2.repl _).ext e)) p⟩
end
end Z

/-! Z3: statements, loops, comprehensions, calls of defs and built-ins over data. -/
namespace Z
open PySem L2

/-! ### targets -/
abbrev ZG := D → Env → Store → (Env → Store → Prop) → Prop
abbrev ZGs := List D → Env → Store → (Env → Store → Prop) → Prop
def RefG (K : PySem.W.Frag) (C : CI) (g : TG) (z : ZG) : Prop := ∀ (S A : List Addr) (σ : L2.St) (H : Hp) (Γ : Env) (Δ : Store) (v : V) (d : D) (P : Env → Store → Prop) (Q : L2.St → Hp → Prop), Slots K C S A H σ Γ → Cells K C S A H Δ → Rep K C S A H v d → z d Γ Δ P →
  NxOk K C S A H P Q → g v σ H Q
def RefGs (K : PySem.W.Frag) (C : CI) (g : TGs) (z : ZGs) : Prop := ∀ (S A : List Addr) (σ : L2.St) (H : Hp) (Γ : Env) (Δ : Store) (vs : List V) (ds : List D) (P : Env → Store → Prop) (Q : L2.St → Hp → Prop), Slots K C S A H σ Γ → Cells K C S A H Δ → RepL K C S A H vs ds → z ds Γ Δ P →
  NxOk K C S A H P Q → g vs σ H Q
structure GZ (C : CI) (X : Cx) (e : Expr) (g : TG) (z : ZG) : Prop where
  pg : PG X e g
  ref : RefG X.K C g z
structure GsZ (C : CI) (X : Cx) (es : List Expr) (g : TGs) (z : ZGs) : Prop where
  pg : PGs X es g
  ref : RefGs X.K C g z
def zgName (i : Nat) : ZG := fun d Γ Δ P => P (Γ.set i (some d)) Δ
def zgNil : ZGs := fun ds Γ Δ P => ds = [] ∧ P Γ Δ
def zgCons (g : ZG) (gs : ZGs) : ZGs := fun ds Γ Δ P => ∃ d r, ds = d :: r ∧ g d Γ Δ fun Γ' Δ' => gs r Γ' Δ' P
def zgTup (n : Nat) (gs : ZGs) : ZG := fun d Γ Δ P => ∃ ds, d = .tup ds ∧ ds.length = n ∧ gs ds Γ Δ P
def zgSub (zo zi : ZE) : ZG := fun d Γ Δ P => zo Γ Δ fun o Δ1 => zi Γ Δ1 fun y Δ2 => ∃ n ds i j, o = .cell n ∧ Δ2[n]? = some (.lst ds) ∧ y = .int i ∧ ixN ds.length i = some j ∧ P Γ (Δ2.set n (.lst (ds.set j d)))
section
variable {C : CI} {X : Cx} {pos : Pos}
theorem gz_name {i : Nat} {x : Str} (hN : X.N.Nodup) (hi : X.N[i]? = some x) (hx : Loc X.env.scope x := by first | exact Or.inl rfl | exact Or.inr rfl) (hf : X.fn x = true ∨ X.env.scope.names.lookup x = some .local := by first | exact .inl rfl | exact .inr rfl | assumption) : GZ C X (.Name x pos) (gName i) (zgName i) :=
  ⟨pg_name hN hi hx hf, fun S A σ H Γ Δ v d P Q hs hc r hz k => k _ A H _ Δ (Ext.refl _ _) (hs.set i r) hc hz⟩
theorem gsz_nil : GsZ C X [] gNil zgNil := ⟨pgs_nil, fun S A σ H Γ Δ vs ds P Q hs hc r hz k => by
  obtain ⟨rfl, p⟩ := hz
  cases r
  exact ⟨rfl, k _ A H _ Δ (Ext.refl _ _) hs hc p⟩⟩
theorem gsz_cons {e : Expr} {es : List Expr} {g : TG} {gs : TGs} {z : ZG} {zs : ZGs} (h : GZ C X e g z) (hr : GsZ C X es gs zs) (hst : (assignEach (e :: es) X.env).map (·.2) = assign e X.env :: (assignEach es X.env).map (·.2) := by rfl) : GsZ C X (e :: es) (gCons g gs) (zgCons z zs) :=
  ⟨pgs_cons h.pg hr.pg hst, fun S A σ H Γ Δ vs ds P Q hs hc r hz k => by
    obtain ⟨d, rest, rfl, p⟩ := hz
    cases r with
    | cons r1 r2 =>
      exact ⟨_, _, rfl, h.ref S A σ H Γ Δ _ d _ _ hs hc r1 p fun σ' A' H' Γ' Δ' e1 s1 c1 p1 => hr.ref S A' σ' H' Γ' Δ' _ rest P Q s1 c1 (r2.ext e1) p1 (k.ext e1)⟩⟩
theorem gz_tup {es : List Expr} {k : Nat} {gs : TGs} {zs : ZGs} {n : Nat} (h : GsZ C X es gs zs) (hc : X.calm = true := by rfl) (hn : (assignEach es X.env).length = n := by rfl) (hst : (assignEach es X.env).findIdx? (·.1) = none := by rfl) : GZ C X (.Tuple es k pos) (gTup X.K n gs) (zgTup n zs) :=
  ⟨pg_tup hc h.pg hn hst, fun S A σ H Γ Δ v d P Q hs hc r hz k => by
    obtain ⟨ds, rfl, hl, p⟩ := hz
    cases r with
    | tup h1 h2 h3 r => exact ⟨_, _, rfl, SqT.of h1, by rw [r.length]; exact hl, h.ref S A σ H Γ Δ _ ds P Q hs hc r p k⟩⟩
theorem gz_sub {o i : Expr} {zo zi : ZE} (ho : EZ C X o zo) (hi : EZ C X i zi) (ha : ∀ v, assign (.Subscript o i pos) X.env v = (do
      let ov ← holding [v] (eval o X.env)
      let iv ← holding [v, ov] (eval i X.env)
      standAt pos
      holding [v, ov, iv] (setItem ov iv v)
      release [v, ov, iv] []) := by intro _; rfl) : ∃ g, GZ C X (.Subscript o i pos) g (zgSub zo zi) := by
  obtain ⟨to, o1, o2⟩ := ho.ex
  obtain ⟨ti, i1, i2⟩ := hi.ex
  refine ⟨_, pg_sub o1 i1 set_list ha, fun S A σ H Γ Δ v d P Q hs hc r hz k => o2 S A σ H Γ Δ _ _ hs hc hz fun ov od A1 H1 Δ1 e1 c1 r1 hz1 => i2 S A1 σ H1 Γ Δ1 _ _ (hs.ext e1) c1 hz1 fun iv id A2 H2 Δ2 e2 c2 r2 hz2 => ?_⟩
  obtain ⟨n, ds, i, j, rfl, hd, rfl, hj, p⟩ := hz2
  cases r2
  cases r1.ext e2 with
  | cell g =>
    obtain ⟨xs, g1, g2⟩ := c2.at_ n _ _ g hd
    have q := c2.put g (g2.set j (r.ext (e1.trans e2)))
    exact ⟨_, xs, i, j, rfl, rfl, g1, by rw [g2.length]; exact hj, k σ A2 _ Γ _ ((e1.trans e2).trans q.2) ((hs.ext (e1.trans e2)).ext q.2) q.1 p⟩
end

/-! ### statements -/
def zNext : ZS := fun Z Γ Δ => Z.nx Γ Δ
def zSeq (t u : ZS) : ZS := fun Z Γ Δ => t { Z with nx := u Z } Γ Δ
def zBreak : ZS := fun Z Γ Δ => Z.bk Γ Δ
def zCont : ZS := fun Z Γ Δ => Z.ct Γ Δ
def zDrop (z : ZE) : ZS := fun Z Γ Δ => z Γ Δ fun _ Δ1 => Z.nx Γ Δ1
def zRet (z : ZE) : ZS := fun Z Γ Δ => z Γ Δ Z.rt
def zRetN : ZS := fun Z _ Δ => Z.rt .non Δ
def zIfS (t : ZT) (a b : ZS) : ZS := fun Z Γ Δ => t Γ Δ fun c Δ1 => (c = true → a Z Γ Δ1) ∧ (c = false → b Z Γ Δ1)
def zNever : ZS := fun _ _ _ => False
def zAsg (z : ZE) (g : ZG) : ZS := fun Z Γ Δ => z Γ Δ fun d Δ1 => g d Γ Δ1 Z.nx
def zPar (i j : Nat) (za : ZA) : ZS := fun Z Γ Δ => za Γ Δ fun ds Δ1 => ∃ a b, ds = [a, b] ∧ Z.nx ((Γ.set i (some a)).set j (some b)) Δ1
def zWhile (t : ZT) (zs : ZS) : ZS := fun Z Γ Δ => ∃ W : Nat → Env → Store → Prop, (∃ m, W m Γ Δ) ∧ ∀ m Γ Δ, W m Γ Δ → t Γ Δ fun b Δ1 =>
  (b = true → zs { Z with nx := fun Γ' Δ' => ∃ m', m' < m ∧ W m' Γ' Δ', ct := fun Γ' Δ' => ∃ m', m' < m ∧ W m' Γ' Δ', bk := Z.nx } Γ Δ1) ∧ (b = false → Z.nx Γ Δ1)
section
variable {C : CI} {X : Cx} {st : Stmt} {rest : List Stmt} {t u : ZS} {e : Expr} {ze : ZE} {pos : Pos}
theorem szs_nil : SZs C X [] zNext := ⟨_, pss_nil, fun S A σ H Γ Δ Z N hs hc hz k => k.nx σ A H Γ Δ (Ext.refl _ _) hs hc hz⟩
theorem szs_cons (h1 : SZ C X st t) (h2 : SZs C X rest u) : SZs C X (st :: rest) (zSeq t u) := by
  obtain ⟨a, a1, a2⟩ := h1.ex
  obtain ⟨b, b1, b2⟩ := h2.ex
  exact ⟨_, pss_cons a1 b1, fun S A σ H Γ Δ Z N hs hc hz k => a2 S A σ H Γ Δ { Z with nx := u Z } { N with nx := b N } hs hc hz
    ⟨fun σ' A' H' Γ' Δ' e s c z => b2 S A' σ' H' Γ' Δ' Z N s c z (k.ext e), k.bk, k.ct, k.rt⟩⟩
theorem szs_one (h1 : SZ C X st t) : SZs C X [st] t := by
  obtain ⟨a, a1, a2⟩ := h1.ex
  exact ⟨_, pss_one a1, a2⟩
theorem szs_never {sts : List Stmt} : SZs C X sts zNever := ⟨_, pss_never, fun S A σ H Γ Δ Z N hs hc hz k => hz.elim⟩
theorem sz_never : SZ C X st zNever := ⟨_, ps_never, fun S A σ H Γ Δ Z N hs hc hz k => hz.elim⟩
theorem sz_pass : SZ C X (.Pass pos) zNext := ⟨_, ps_pass, fun S A σ H Γ Δ Z N hs hc hz k => k.nx σ A H Γ Δ (Ext.refl _ _) hs hc hz⟩
theorem sz_break : SZ C X (.Break pos) zBreak := ⟨_, ps_break, fun S A σ H Γ Δ Z N hs hc hz k => k.bk σ A H Γ Δ (Ext.refl _ _) hs hc hz⟩
theorem sz_continue : SZ C X (.Continue pos) zCont := ⟨_, ps_continue, fun S A σ H Γ Δ Z N hs hc hz k => k.ct σ A H Γ Δ (Ext.refl _ _) hs hc hz⟩
theorem sz_expr (h : EZ C X e ze) (hs : swapsWith e none pos.line X.env = pure false := by rfl) : SZ C X (.Expr e pos) (zDrop ze) := by
  obtain ⟨t, h1, h2⟩ := h.ex
  exact ⟨_, ps_expr h1 hs, fun S A σ H Γ Δ Z N hs hc hz k => h2 S A σ H Γ Δ _ _ hs hc hz fun v d A' H' Δ' e c r p => k.nx σ A' H' Γ Δ' e (hs.ext e) c p⟩
theorem sz_ret (h : EZ C X e ze) : SZ C X (.Return (some e) pos) (zRet ze) := by
  obtain ⟨t, h1, h2⟩ := h.ex
  exact ⟨_, ps_ret h1, fun S A σ H Γ Δ Z N hs hc hz k => h2 S A σ H Γ Δ _ _ hs hc hz fun v d A' H' Δ' e c r p => k.rt v d A' H' Δ' e c r p⟩
theorem sz_retN : SZ C X (.Return none pos) zRetN := ⟨_, ps_retN, fun S A σ H Γ Δ Z N hs hc hz k => k.rt _ _ A H Δ (Ext.refl _ _) hc .non hz⟩
theorem sz_if {c : Expr} {a b : List Stmt} {zc : ZT} (hc : TZ C X c zc) (ha : SZs C X a t) (hb : SZs C X b u) : SZ C X (.If c a b pos) (zIfS zc t u) := by
  obtain ⟨tc, c1, c2⟩ := hc.ex
  obtain ⟨ta, a1, a2⟩ := ha.ex
  obtain ⟨tb, b1, b2⟩ := hb.ex
  refine ⟨_, ps_if c1 a1 b1, fun S A σ H Γ Δ Z N hs hc hz k => c2 S A σ H Γ Δ _ _ hs hc hz fun d A1 H1 Δ1 e1 c1 hz1 => ?_⟩
  cases d with
  | true => exact iteT (a2 S A1 σ H1 Γ Δ1 Z N (hs.ext e1) c1 (hz1.1 rfl) (k.ext e1))
  | false => exact iteF (b2 S A1 σ H1 Γ Δ1 Z N (hs.ext e1) c1 (hz1.2 rfl) (k.ext e1))
theorem ref_asg {K : PySem.W.Frag} {te : TE} {g : TG} {zg : ZG} (h : RefE K C te ze) (hg : RefG K C g zg) : RefS K C (tAsg te g) (zAsg ze zg) := fun S A σ H Γ Δ Z N hs hc hz k =>
  h S A σ H Γ Δ _ _ hs hc hz fun v d A1 H1 Δ1 e1 c1 r1 p => hg S A1 σ H1 Γ Δ1 v d Z.nx N.nx (hs.ext e1) c1 r1 p (k.nx.ext e1)
theorem sz_asg {tg : Expr} {g : TG} {zg : ZG} (h : EZ C X e ze) (hg : GZ C X tg g zg) (hs : swapsWithSole [tg] e pos.line X.env = pure false := by rfl) (hw : swappedStores [tg] e X.env = pure none := by rfl)
    (h1 : (assignEach [tg] X.env).map (·.2) = [assign tg X.env] := by rfl) : SZ C X (.Assign [tg] e pos) (zAsg ze zg) := by
  obtain ⟨t, a1, a2⟩ := h.ex
  exact ⟨_, ps_asg a1 hg.pg hs hw h1, ref_asg a2 hg.ref⟩
theorem sz_asgSub {tg : Expr} {zg : ZG} (h : EZ C X e ze) (hg : ∃ g, GZ C X tg g zg) (hs : swapsWithSole [tg] e pos.line X.env = pure false := by rfl) (hw : swappedStores [tg] e X.env = pure none := by rfl)
    (h1 : (assignEach [tg] X.env).map (·.2) = [assign tg X.env] := by rfl) : SZ C X (.Assign [tg] e pos) (zAsg ze zg) := by
  obtain ⟨g, hg⟩ := hg
  exact sz_asg h hg hs hw h1
theorem sz_set {i : Nat} {x : Str} {pos' : Pos} (hN : X.N.Nodup) (h : EZ C X e ze) (hi : X.N[i]? = some x := by rfl) (hx : Loc X.env.scope x := by first | exact Or.inl rfl | exact Or.inr rfl) (hs : swapsWith e (some (.Name x pos')) pos.line X.env = pure false := by rfl)
    (hf : X.fn x = true ∨ X.env.scope.names.lookup x = some .local := by first | exact .inl rfl | exact .inr rfl | assumption) : SZ C X (.Assign [.Name x pos'] e pos) (zAsg ze (zgName i)) := by
  obtain ⟨t, a1, a2⟩ := h.ex
  exact ⟨_, ps_set hN hi hx a1 hs hf, ref_asg a2 (gz_name (C := C) (pos := pos') hN hi hx hf).ref⟩
theorem sz_par {i j : Nat} {x y : Str} {a b : Expr} {za : ZA} {px py pt : Pos} {kt k2 pt2} (hN : X.N.Nodup) (hi : X.N[i]? = some x) (hj : X.N[j]? = some y) (hij : i ≠ j)
    (hx : X.env.scope.names.lookup x = some .local) (hy : X.env.scope.names.lookup y = some .local) (ha : AZ C X [a, b] za)
    (hw : swappedStores [.Tuple [.Name x px, .Name y py] kt pt] (.Tuple [a, b] k2 pt2) X.env = pure (some [x, y]) := by rfl)
    (hs : swapsWithSole [.Tuple [.Name x px, .Name y py] kt pt] (.Tuple [a, b] k2 pt2) pos.line X.env = pure false := by rfl) (hc : X.calm = true := by rfl) :
    SZ C X (.Assign [.Tuple [.Name x px, .Name y py] kt pt] (.Tuple [a, b] k2 pt2) pos) (zPar i j za) := by
  obtain ⟨t, a1, a2⟩ := ha.ex
  refine ⟨_, ps_par hc hN hi hj hij hx hy a1 hw hs, fun S A σ H Γ Δ Z N hs hc hz k => a2 S A σ H Γ Δ _ _ hs hc hz fun vs ds A1 H1 Δ1 e1 c1 r1 p => ?_⟩
  obtain ⟨a, b, rfl, p⟩ := p
  cases r1 with
  | cons r1 r2 =>
    cases r2 with
    | cons r2 r3 =>
      cases r3
      exact ⟨_, _, rfl, k.nx _ A1 H1 _ Δ1 e1 (((hs.ext e1).set i r1).set j r2) c1 p⟩
theorem sz_while {c : Expr} {body : List Stmt} {zc : ZT} {zb : ZS} (hc : TZ C X c zc) (hb : SZs C X body zb) (hp : PassesOwn (model X.prog X.w) X.A X.env X.xe := by exact PassesOwn.never) : SZ C X (.While c body [] pos) (zWhile zc zb) := by
  obtain ⟨tc, c1, c2⟩ := hc.ex
  obtain ⟨tb, b1, b2⟩ := hb.ex
  refine ⟨_, ps_while hp c1 b1, fun S A σ H Γ Δ Z N hs hc hz k => ?_⟩
  obtain ⟨W, ⟨m0, w0⟩, hW⟩ := hz
  refine ⟨fun m σ' H' => ∃ A' Γ' Δ', Ext A H A' H' ∧ Slots X.K C S A' H' σ' Γ' ∧ Cells X.K C S A' H' Δ' ∧ W m Γ' Δ', ⟨m0, A, Γ, Δ, Ext.refl _ _, hs, hc, w0⟩, ?_⟩
  rintro m σ' H' ⟨A', Γ', Δ', e, s, c, w⟩
  refine c2 S A' σ' H' Γ' Δ' _ _ s c (hW m Γ' Δ' w) fun b A1 H1 Δ1 e1 c1 p => ?_
  cases b with
  | false => exact iteF (k.nx σ' A1 H1 Γ' Δ1 (e.trans e1) (s.ext e1) c1 (p.2 rfl))
  | true =>
    refine iteT ⟨fun σ2 H2 => ∃ A2 Γ2 Δ2, Ext A H A2 H2 ∧ Slots X.K C S A2 H2 σ2 Γ2 ∧ Cells X.K C S A2 H2 Δ2 ∧ ∃ m', m' < m ∧ W m' Γ2 Δ2, ?_, ?_⟩
    · rintro σ2 H2 ⟨A2, Γ2, Δ2, e2, s2, c2, m', hm, w'⟩
      exact ⟨m', hm, A2, Γ2, Δ2, e2, s2, c2, w'⟩
    · refine b2 S A1 σ' H1 Γ' Δ1 _ _ (s.ext e1) c1 (p.1 rfl) ⟨?_, ?_, ?_, ?_⟩
      · exact fun σ2 A2 H2 Γ2 Δ2 e2 s2 c2 q => ⟨A2, Γ2, Δ2, (e.trans e1).trans e2, s2, c2, q⟩
      · exact k.nx.ext (e.trans e1)
      · exact fun σ2 A2 H2 Γ2 Δ2 e2 s2 c2 q => ⟨A2, Γ2, Δ2, (e.trans e1).trans e2, s2, c2, q⟩
      · exact fun v d A2 H2 Δ2 e2 c2 r q => k.rt v d A2 H2 Δ2 ((e.trans e1).trans e2) c2 r q

/-! ### what is walked -/
abbrev ZI := Env → Store → (List D → Store → Prop) → Prop
def RefI (K : PySem.W.Frag) (C : CI) (wi : TI) (zi : ZI) : Prop := ∀ (S A : List Addr) (σ : L2.St) (H : Hp) (Γ : Env) (Δ : Store) (P : List D → Store → Prop) (R : It → Hp → Prop), Slots K C S A H σ Γ → Cells K C S A H Δ → zi Γ Δ P →
  (∀ (J : It) (n : Nat) (G : Hp → Prop) (Y : Nat → Hp → V → Hp → Prop) (items : List D) (A' : List Addr) (H' : Hp) (Δ' : Store), Ext A H A' H' → Cells K C S A' H' Δ' → P items Δ' → n = items.length → Walk J n G Y →
    (∀ S2 A2 H2, Mo S A' H' S2 A2 H2 → G H2) →
    (∀ S2 A2 H2 Δ2 i x H3, i < n → Mo S A' H' S2 A2 H2 → Cells K C S2 A2 H2 Δ2 → Y i H2 x H3 → ∃ d, items[i]? = some d ∧ (∀ a o, H2 a = some o → H3 a = some o) ∧ Rep K C S2 A2 H3 x d) → R J H') → wi σ H R
structure IZ (C : CI) (X : Cx) (tg iter : Expr) (zi : ZI) : Prop where
  ex : ∃ wi, PI X tg iter wi ∧ RefI X.K C wi zi
theorem Ext.kept {A : List Addr} {H H' : Hp} (k : ∀ a o, H a = some o → H' a = some o) : Ext A H A H' := ⟨⟨[], by simp, by simp⟩, fun a o _ h => k a o h, fun a h => by
  cases q : H a with
  | none => rfl
  | some o => rw [k a o q] at h; cases h⟩
/-- a list (its own, or the script) -/
def ziList (z : ZE) : ZI := fun Γ Δ P => z Γ Δ fun d Δ1 => (∃ ds, d = .lst ds ∧ P ds Δ1) ∨ ∃ ns, d = .scr ns ∧ P (ns.map D.int) Δ1
theorem iz_list {tg iter : Expr} {z : ZE} (h : EZ C X iter z) : IZ C X tg iter (ziList z) := by
  obtain ⟨t, h1, h2⟩ := h.ex
  refine ⟨_, pi_list h1, fun S A σ H Γ Δ P R hs hc hz k => h2 S A σ H Γ Δ _ _ hs hc hz fun v d A1 H1 Δ1 e1 c1 r1 p => ?_⟩
  rcases p with ⟨ds, rfl, p⟩ | ⟨ns, rfl, p⟩
  · cases r1 with
    | lst g1 g2 g3 g4 =>
      rename_i a xs
      refine ⟨a, rfl, ⟨xs, SqL.of g1⟩, ?_⟩
      refine k (Itl X.K a) xs.length (fun H => SqL X.K H a xs) (YAt xs) ds A1 H1 Δ1 e1 c1 p g4.length walk_list (fun S2 A2 H2 m => SqL.of (m.keep _ _ g2 g3 g1)) fun S2 A2 H2 Δ2 i x H3 hi m c2 y => ?_
      obtain ⟨rfl, y⟩ := y
      obtain ⟨d, q1, q2⟩ := (RepL.mono m ds g4).getV y
      exact ⟨d, q1, fun _ _ h => h, q2⟩
  · cases r1 with
    | scr g =>
      rename_i a
      refine ⟨a, rfl, ?_, ?_⟩
      · rcases g with ⟨⟨o, g⟩, _⟩ | g
        · exact ⟨_, .inl (.inr ⟨o, g⟩)⟩
        · exact ⟨_, .inr g⟩
      · refine k (Itl X.K a) (ns.map V.int).length (fun H => SqL X.K H a (ns.map V.int)) (YAt (ns.map V.int)) (ns.map D.int) A1 H1 Δ1 e1 c1 p (by rw [List.length_map, List.length_map]) walk_list (fun S2 A2 H2 m => ?_) fun S2 A2 H2 Δ2 i x H3 hi m c2 y => ?_
        · rcases g with ⟨⟨o, g⟩, gA, gS⟩ | g
          · exact .inl (.inr ⟨o, m.keep _ _ gA gS g⟩)
          · exact .inr g
        · obtain ⟨rfl, y⟩ := y
          obtain ⟨d, q1, q2⟩ := (repL_ints (K := X.K) (C := C) (S := S2) (A := A2) (H := H3) ns).getV y
          exact ⟨d, q1, fun _ _ h => h, q2⟩
/-- a tuple -/
def ziTup (z : ZE) : ZI := fun Γ Δ P => z Γ Δ fun d Δ1 => ∃ ds, d = .tup ds ∧ P ds Δ1
theorem iz_tup {tg iter : Expr} {z : ZE} (h : EZ C X iter z) : IZ C X tg iter (ziTup z) := by
  obtain ⟨t, h1, h2⟩ := h.ex
  refine ⟨_, pi_tup h1, fun S A σ H Γ Δ P R hs hc hz k => h2 S A σ H Γ Δ _ _ hs hc hz fun v d A1 H1 Δ1 e1 c1 r1 p => ?_⟩
  obtain ⟨ds, rfl, p⟩ := p
  cases r1 with
  | tup g1 g2 g3 g4 =>
    rename_i a xs
    refine ⟨a, rfl, ⟨xs, SqT.of g1⟩, ?_⟩
    refine k (Itt X.K a) xs.length (fun H => SqT X.K H a xs) (YAt xs) ds A1 H1 Δ1 e1 c1 p g4.length walk_tup (fun S2 A2 H2 m => SqT.of (m.keep _ _ g2 g3 g1)) fun S2 A2 H2 Δ2 i x H3 hi m c2 y => ?_
    obtain ⟨rfl, y⟩ := y
    obtain ⟨d, q1, q2⟩ := (RepL.mono m ds g4).getV y
    exact ⟨d, q1, fun _ _ h => h, q2⟩
/-- lo, lo + 1, .. below hi -/
def rangeD (lo hi : Int) : List D := (List.range (hi - lo).toNat).map fun (i : Nat) => D.int (lo + ((i : Nat) : Int))
theorem rangeD_len (lo hi : Int) : (rangeD lo hi).length = (hi - lo).toNat := by unfold rangeD; rw [List.length_map, List.length_range]
def ziR1 (z : ZA) : ZI := fun Γ Δ P => z Γ Δ fun ds Δ1 => ∃ n, ds = [.int n] ∧ -(2 ^ 62) ≤ n ∧ n < 2 ^ 62 ∧ P (rangeD 0 n) Δ1
def ziR2 (z : ZA) : ZI := fun Γ Δ P => z Γ Δ fun ds Δ1 => ∃ a b, ds = [.int a, .int b] ∧ -(2 ^ 62) ≤ a ∧ a < 2 ^ 62 ∧ -(2 ^ 62) ≤ b ∧ b < 2 ^ 62 ∧ P (rangeD a b) Δ1
theorem range_get {lo hi : Int} {i : Nat} (h : i < (hi - lo).toNat) : (rangeD lo hi)[i]? = some (.int (lo + (i : Int))) := by
  unfold rangeD
  rw [List.getElem?_map, List.getElem?_range h] <;> rfl
theorem ref_range {K : PySem.W.Frag} {S A A1 : List Addr} {H H1 : Hp} {Δ1 : Store} {P : List D → Store → Prop} {R : It → Hp → Prop} {lo hi : Int} (e1 : Ext A H A1 H1) (c1 : Cells K C S A1 H1 Δ1) (p : P (rangeD lo hi) Δ1)
    (k : ∀ (J : It) (n : Nat) (G : Hp → Prop) (Y : Nat → Hp → V → Hp → Prop) (items : List D) (A' : List Addr) (H' : Hp) (Δ' : Store), Ext A H A' H' → Cells K C S A' H' Δ' → P items Δ' → n = items.length → Walk J n G Y →
    (∀ S2 A2 H2, Mo S A' H' S2 A2 H2 → G H2) →
    (∀ S2 A2 H2 Δ2 i x H3, i < n → Mo S A' H' S2 A2 H2 → Cells K C S2 A2 H2 Δ2 → Y i H2 x H3 → ∃ d, items[i]? = some d ∧ (∀ a o, H2 a = some o → H3 a = some o) ∧ Rep K C S2 A2 H3 x d) → R J H') : R (Itr lo (hi - lo).toNat) H1 := by
  refine k (Itr lo (hi - lo).toNat) _ (fun _ => True) _ _ A1 H1 Δ1 e1 c1 p (rangeD_len lo hi).symm walk_range (fun _ _ _ _ => trivial) fun S2 A2 H2 Δ2 i x H3 hi' m c2 y => ?_
  obtain ⟨rfl, rfl⟩ := y
  exact ⟨_, range_get hi', fun _ _ h => h, .int _⟩
theorem iz_r1 {tg a : Expr} {z : ZA} {p pos : Pos} (h : AZ C X [a] z) (hm : X.mg "range" = none) (hg : Gl X "range" := by rfl) (hs : starEach [a] X.env = [(false, eval a X.env)] := by rfl) : IZ C X tg (.Call (.Name "range" p) [a] [] pos) (ziR1 z) := by
  obtain ⟨t, h1, h2⟩ := h.ex
  refine ⟨_, pi_range1 hg hm h1 hs, fun S A σ H Γ Δ P R hs hc hz k => h2 S A σ H Γ Δ _ _ hs hc hz fun vs ds A1 H1 Δ1 e1 c1 r1 p => ?_⟩
  obtain ⟨n, rfl, g1, g2, p⟩ := p
  cases r1 with
  | cons r1 r2 =>
    cases r1
    cases r2
    refine ⟨n, rfl, g1, g2, ?_⟩
    have q := ref_range (R := R) e1 c1 p k
    rw [Int.sub_zero] at q
    exact q
theorem iz_r2 {tg a b : Expr} {z : ZA} {p pos : Pos} (h : AZ C X [a, b] z) (hm : X.mg "range" = none) (hg : Gl X "range" := by rfl) (hs : starEach [a, b] X.env = [(false, eval a X.env), (false, eval b X.env)] := by rfl) (hs2 : starEach [b] X.env = [(false, eval b X.env)] := by rfl) :
    IZ C X tg (.Call (.Name "range" p) [a, b] [] pos) (ziR2 z) := by
  obtain ⟨t, h1, h2⟩ := h.ex
  refine ⟨_, pi_range2 hg hm h1 hs hs2, fun S A σ H Γ Δ P R hs hc hz k => h2 S A σ H Γ Δ _ _ hs hc hz fun vs ds A1 H1 Δ1 e1 c1 r1 p => ?_⟩
  obtain ⟨a, b, rfl, g1, g2, g3, g4, p⟩ := p
  cases r1 with
  | cons r1 r2 =>
    cases r1
    cases r2 with
    | cons r2 r3 =>
      cases r2
      cases r3
      exact ⟨a, b, rfl, ⟨g1, g2, g3, g4⟩, ref_range (R := R) e1 c1 p k⟩

/-! ### for -/
def loopZ (body : D → ZS) (Z : ZEnds) : List D → Env → Store → Prop
  | [], Γ, Δ => Z.nx Γ Δ
  | x :: xs, Γ, Δ => body x { Z with nx := loopZ body Z xs, ct := loopZ body Z xs, bk := Z.nx } Γ Δ
def zFor (zi : ZI) (g : ZG) (zs : ZS) : ZS := fun Z Γ Δ => zi Γ Δ fun items Δ1 => loopZ (fun x Z' Γ' Δ' => g x Γ' Δ' fun Γ2 Δ2 => zs Z' Γ2 Δ2) Z items Γ Δ1
theorem sz_for {tg iter : Expr} {body : List Stmt} {zi : ZI} {g : TG} {zg : ZG} {zb : ZS} (hi : IZ C X tg iter zi) (hg : GZ C X tg g zg) (hb : SZs C X body zb) (hp : PassesOwn (model X.prog X.w) X.A X.env X.xe := by exact PassesOwn.never) (hc : X.calm = true := by rfl)
    (hs : ∀ x, foldedSetIterable iter X.env x = pure x := by intro _; rfl) : SZ C X (.For tg iter body [] pos) (zFor zi zg zb) := by
  obtain ⟨wi, i1, i2⟩ := hi.ex
  obtain ⟨tb, b1, b2⟩ := hb.ex
  refine ⟨_, ps_for hp hc i1 hg.pg b1 hs, fun S A σ H Γ Δ Z N hs hc hz k => i2 S A σ H Γ Δ _ _ hs hc hz fun J n G Y items A1 H1 Δ1 e1 c1 p hn w hG hY => ?_⟩
  refine for_it w (fun i σ2 H2 => ∃ A2 Γ2 Δ2, Ext A1 H1 A2 H2 ∧ Slots X.K C S A2 H2 σ2 Γ2 ∧ Cells X.K C S A2 H2 Δ2 ∧ loopZ (fun x Z' Γ' Δ' => zg x Γ' Δ' fun Γ2 Δ2 => zb Z' Γ2 Δ2) Z (items.drop i) Γ2 Δ2)
    ⟨A1, Γ, Δ1, Ext.refl _ _, hs.ext e1, c1, p⟩ (fun i σ2 H2 _ ⟨A2, Γ2, Δ2, e2, _, _, _⟩ => hG S A2 H2 e2.mo) ?_ ?_
  · rintro i x σ2 H2 H3 hi ⟨A2, Γ2, Δ2, e2, s2, c2, q⟩ y
    obtain ⟨d, q1, q2, q3⟩ := hY S A2 H2 Δ2 i x H3 hi e2.mo c2 y
    have hd : items.drop i = d :: items.drop (i + 1) := by
      obtain ⟨hl, q⟩ := List.getElem?_eq_some_iff.mp q1
      rw [← q]
      exact List.drop_eq_getElem_cons hl
    rw [hd] at q
    have e3 : Ext A2 H2 A2 H3 := Ext.kept q2
    refine hg.ref S A2 σ2 H3 Γ2 Δ2 x d _ _ (s2.ext e3) (c2.kept q2) q3 q fun σ4 A4 H4 Γ4 Δ4 e4 s4 c4 p4 => ?_
    have e14 := (e2.trans e3).trans e4
    refine b2 S A4 σ4 H4 Γ4 Δ4 _ _ s4 c4 p4 ⟨?_, ?_, ?_, ?_⟩
    · exact fun σ5 A5 H5 Γ5 Δ5 e5 s5 c5 p5 => ⟨A5, Γ5, Δ5, e14.trans e5, s5, c5, p5⟩
    · exact k.nx.ext (e1.trans e14)
    · exact fun σ5 A5 H5 Γ5 Δ5 e5 s5 c5 p5 => ⟨A5, Γ5, Δ5, e14.trans e5, s5, c5, p5⟩
    · exact fun v d A5 H5 Δ5 e5 c5 r5 p5 => k.rt v d A5 H5 Δ5 ((e1.trans e14).trans e5) c5 r5 p5
  · rintro σ2 H2 ⟨A2, Γ2, Δ2, e2, s2, c2, q⟩
    rw [hn, List.drop_length] at q
    exact k.nx σ2 A2 H2 Γ2 Δ2 (e1.trans e2) s2 c2 q
end
end Z

/-! Z4: comprehensions, zip, enumerate, calls of defs and built-ins over data. -/
namespace Z
open PySem L2

/-! ### slots forgotten -/
def wipeZ (Γ : Env) : List Nat → Env
  | [] => Γ
  | v :: vs => (wipeZ Γ vs).set v none
theorem wipeZ_length (Γ : Env) : ∀ vs : List Nat, (wipeZ Γ vs).length = Γ.length
  | [] => rfl
  | v :: vs => by unfold wipeZ; rw [List.length_set, wipeZ_length Γ vs]
theorem wipeZ_some {Γ : Env} {i : Nat} {d : D} : ∀ {vs : List Nat}, (wipeZ Γ vs)[i]? = some (some d) → Γ[i]? = some (some d) ∧ i ∉ vs
  | [], h => ⟨h, by simp⟩
  | v :: vs, h => by
    unfold wipeZ at h
    by_cases e : i = v
    · subst e
      by_cases hl : i < (wipeZ Γ vs).length
      · rw [List.getElem?_set_self hl] at h; cases h
      · rw [List.getElem?_eq_none (by rw [List.length_set]; omega)] at h; cases h
    · rw [List.getElem?_set_ne (Ne.symm e)] at h
      obtain ⟨h1, h2⟩ := wipeZ_some h
      exact ⟨h1, by simp [e, h2]⟩
theorem wipe_get {σ : L2.St} {i : Nat} : ∀ {vs : List Nat}, i ∉ vs → (wipe σ vs)[i]? = σ[i]?
  | [], _ => rfl
  | v :: vs, h => by
    unfold wipe
    have h1 : i ≠ v := fun e => h (by simp [e])
    rw [List.getElem?_set_ne (Ne.symm h1)]
    exact wipe_get fun q => h (List.mem_cons_of_mem _ q)
theorem wipe_in {σ : L2.St} {i : Nat} : ∀ {vs : List Nat}, i ∈ vs → (wipe σ vs)[i]? = if i < σ.length then some none else none
  | v :: vs, h => by
    unfold wipe
    by_cases e : i = v
    · subst e
      by_cases hl : i < σ.length
      · rw [List.getElem?_set_self (by rw [wipe_length]; exact hl), if_pos hl]
      · rw [List.getElem?_eq_none (by rw [List.length_set, wipe_length]; omega), if_neg hl]
    · rw [List.getElem?_set_ne (Ne.symm e)]
      exact wipe_in ((List.mem_cons.mp h).resolve_left e)
theorem wipe_ext {σ τ : L2.St} {vs : List Nat} (hl : σ.length = τ.length) (h : ∀ i, i ∉ vs → σ[i]? = τ[i]?) : wipe σ vs = wipe τ vs := by
  refine List.ext_getElem? fun i => ?_
  by_cases hi : i ∈ vs
  · rw [wipe_in hi, wipe_in hi, hl]
  · rw [wipe_get hi, wipe_get hi]; exact h i hi
theorem wipe_wipe (σ : L2.St) (vs : List Nat) : wipe (wipe σ vs) vs = wipe σ vs := wipe_ext (wipe_length σ vs) fun i hi => wipe_get hi
theorem wipe_set {σ : L2.St} {i : Nat} {x : Option V} {vs : List Nat} (hi : i ∈ vs) : wipe (σ.set i x) vs = wipe σ vs :=
  wipe_ext (by rw [List.length_set]) fun j hj => by rw [List.getElem?_set_ne (fun e => hj (by rw [← e]; exact hi))]
theorem Slots.wipe {K : PySem.W.Frag} {C : CI} {S A : List Addr} {H : Hp} {σ : L2.St} {Γ : Env} (h : Slots K C S A H σ Γ) (vs : List Nat) : Slots K C S A H (L2.wipe σ vs) (wipeZ Γ vs) := by
  refine ⟨by rw [wipe_length, wipeZ_length]; exact h.len, fun i d q => ?_⟩
  obtain ⟨h1, h2⟩ := wipeZ_some q
  obtain ⟨v, g1, g2⟩ := h.at_ i d h1
  exact ⟨v, by rw [wipe_get h2]; exact g1, g2⟩
/-- a target that stores into the slots vs alone -/
def Own (g : TG) (vs : List Nat) : Prop := ∀ x σ H Q, g x σ H Q → g x σ H fun σ2 H2 => wipe σ2 vs = wipe σ vs ∧ Q σ2 H2
def Owns (g : TGs) (vs : List Nat) : Prop := ∀ xs σ H Q, g xs σ H Q → g xs σ H fun σ2 H2 => wipe σ2 vs = wipe σ vs ∧ Q σ2 H2
theorem own_name {i : Nat} {vs : List Nat} (h : i ∈ vs) : Own (gName i) vs := fun _ _ _ _ q => ⟨wipe_set h, q⟩
theorem owns_nil {vs : List Nat} : Owns gNil vs := fun _ _ _ _ q => ⟨q.1, rfl, q.2⟩
theorem gName_eq {i : Nat} {x : V} {σ : L2.St} {H : Hp} {Q : L2.St → Hp → Prop} : gName i x σ H Q = Q (σ.set i (some x)) H := rfl
theorem owns_cons {i : Nat} {gs : TGs} {vs : List Nat} (h : i ∈ vs) (hs : Owns gs vs) : Owns (gCons (gName i) gs) vs := fun xs σ H Q q => by
  obtain ⟨v, r, e, q⟩ := q
  refine ⟨v, r, e, ?_⟩
  have q' : gs r (σ.set i (some v)) H Q := q
  have := hs _ _ _ _ q'
  rw [wipe_set h] at this
  exact this
theorem own_tup {K : PySem.W.Frag} {n : Nat} {gs : TGs} {vs : List Nat} (h : Owns gs vs) : Own (gTup K n gs) vs := fun x σ H Q q => by
  obtain ⟨a, xs, e, h1, h2, q⟩ := q
  exact ⟨a, xs, e, h1, h2, h _ _ _ _ q⟩

/-! ### a list comprehension -/
abbrev ZTs := ZT
def zYes : ZT := fun _ Δ P => P true Δ
structure TsZ (C : CI) (X : Cx) (es : List Expr) (z : ZT) : Prop where
  ex : ∃ tt, PTs X es tt ∧ RefT X.K C tt z
def compZ (zg : ZG) (zt : ZT) (ze : ZE) (Γ0 : Env) (P : D → Store → Prop) : List D → List D → Store → Prop
  | [], acc, Δ => P (.lst acc) Δ
  | x :: xs, acc, Δ => zg x Γ0 Δ fun Γ2 Δ2 => zt Γ2 Δ2 fun b Δ3 => (b = true → ze Γ2 Δ3 fun y Δ4 => acc.length < 100000 ∧ compZ zg zt ze Γ0 P xs (acc ++ [y]) Δ4) ∧ (b = false → compZ zg zt ze Γ0 P xs acc Δ3)
def zLc (zi : ZI) (zg : ZG) (zt : ZT) (ze : ZE) (vs : List Nat) : ZE := fun Γ Δ P => zi Γ Δ fun items Δ1 => compZ zg zt ze (wipeZ Γ vs) P items [] Δ1
theorem lt_line {n : Nat} (h : n < 100000) : n < sizeLine := Nat.lt_of_lt_of_le h (by decide)
theorem ref_lc {K : PySem.W.Frag} {C : CI} {wi : TI} {g : TG} {tt : TT} {te : TE} {vs : List Nat} {zi : ZI} {zg : ZG} {zt : ZT} {ze : ZE} (hi : RefI K C wi zi) (hg : RefG K C g zg) (ho : Own g vs) (ht : RefT K C tt zt) (he : RefE K C te ze) :
    RefE K C (tLc wi g tt te vs) (zLc zi zg zt ze vs) := fun S A σ H Γ Δ P Q hs hc hz k => hi S A σ H Γ Δ _ _ hs hc hz fun J n G Y items A1 H1 Δ1 e1 c1 p hn w hG hY q hq => by
  have s1 := hs.ext e1
  -- the list at q is set aside
  have mo0 : Mo S A1 H1 (q :: S) A1 (upd H1 q (.lst [])) := ⟨⟨[], by simp, by simp⟩, fun b hb => by
    rcases List.mem_cons.mp hb with rfl | hb
    · exact .inr hq
    · exact .inl hb, fun a o _ _ h => by rw [upd_ne (ne_of_none h hq)]; exact h⟩
  have cells0 : Cells K C (q :: S) A1 (upd H1 q (.lst [])) Δ1 := by
    refine ⟨c1.len, c1.nd, fun a ha hb => ?_, fun a ha h => ?_, fun n a o h1 h2 => (c1.at_ n a o h1 h2).mono mo0 fun u h => by rw [upd_ne (ne_of_none h hq)]; exact h⟩
    · rcases List.mem_cons.mp hb with rfl | hb
      · exact c1.fresh hq ha
      · exact c1.dj a ha hb
    · rcases List.mem_cons.mp ha with rfl | ha
      · rw [upd_same] at h; cases h
      · exact c1.as a ha ((Ext.new (A := A1) hq).trk a h)
  refine lc_it w (fun i H2 => ∃ A2 Δ2 acc accV, Ext A1 H1 A2 H2 ∧ Mo S A1 H1 (q :: S) A2 H2 ∧ Cells K C (q :: S) A2 H2 Δ2 ∧ H2 q = some (.lst accV) ∧ RepL K C (q :: S) A2 H2 accV acc ∧ compZ zg zt ze (wipeZ Γ vs) P (items.drop i) acc Δ2)
    ⟨A1, Δ1, [], [], Ext.new hq, mo0, cells0, upd_same, .nil, p⟩ (fun i H2 _ ⟨A2, Δ2, acc, accV, _, m, _⟩ => hG _ A2 H2 m) ?_ ?_
  · rintro i x H2 H3 hi2 ⟨A2, Δ2, acc, accV, e2, m2, c2, hqv, hacc, hp⟩ y
    obtain ⟨d, q1, q2, q3⟩ := hY _ A2 H2 Δ2 i x H3 hi2 m2 c2 y
    have hd : items.drop i = d :: items.drop (i + 1) := by
      obtain ⟨hl, q⟩ := List.getElem?_eq_some_iff.mp q1
      rw [← q]
      exact List.drop_eq_getElem_cons hl
    rw [hd] at hp
    have e3 : Ext A2 H2 A2 H3 := Ext.kept q2
    have s3 : Slots K C (q :: S) A2 H3 (wipe σ vs) (wipeZ Γ vs) := ((s1.mono m2).ext e3).wipe vs
    have fin : g x (wipe σ vs) H3 fun σ2 H4 => wipe σ2 vs = wipe (wipe σ vs) vs ∧ tt σ2 H4 fun b H5 =>
        if b = true then te σ2 H5 fun y H6 => ∃ acc, H6 q = some (.lst acc) ∧ acc.length < sizeLine ∧ ∃ A2 Δ2 acc' accV, Ext A1 H1 A2 (upd H6 q (.lst (acc ++ [y]))) ∧ Mo S A1 H1 (q :: S) A2 (upd H6 q (.lst (acc ++ [y]))) ∧ Cells K C (q :: S) A2 (upd H6 q (.lst (acc ++ [y]))) Δ2 ∧
          (upd H6 q (.lst (acc ++ [y]))) q = some (.lst accV) ∧ RepL K C (q :: S) A2 (upd H6 q (.lst (acc ++ [y]))) accV acc' ∧ compZ zg zt ze (wipeZ Γ vs) P (items.drop (i + 1)) acc' Δ2
        else ∃ A2 Δ2 acc accV, Ext A1 H1 A2 H5 ∧ Mo S A1 H1 (q :: S) A2 H5 ∧ Cells K C (q :: S) A2 H5 Δ2 ∧ H5 q = some (.lst accV) ∧ RepL K C (q :: S) A2 H5 accV acc ∧ compZ zg zt ze (wipeZ Γ vs) P (items.drop (i + 1)) acc Δ2 := by
      refine ho _ _ _ _ (hg (q :: S) A2 (wipe σ vs) H3 (wipeZ Γ vs) Δ2 x d _ _ s3 (c2.kept q2) q3 hp fun σ4 A4 H4 Γ4 Δ4 e4 s4 c4 p4 => ?_)
      refine ht (q :: S) A4 σ4 H4 Γ4 Δ4 _ _ s4 c4 p4 fun b A5 H5 Δ5 e5 c5 p5 => ?_
      have e25 := (e3.trans e4).trans e5
      have e15 := e2.trans e25
      have hq2 : q ∉ A2 := fun h => c2.dj q h List.mem_cons_self
      have hq5 : H5 q = some (.lst accV) := e25.keep q _ hq2 hqv
      have m5 : Mo S A1 H1 (q :: S) A5 H5 := ⟨e15.pre, m2.sub, fun a o h1 _ h3 => e15.keep a o h1 h3⟩
      cases b with
      | false => exact iteF ⟨A5, Δ5, acc, accV, e15, m5, c5, hq5, hacc.ext e25, p5.2 rfl⟩
      | true =>
        refine iteT (he (q :: S) A5 σ4 H5 Γ4 Δ5 _ _ (s4.ext e5) c5 (p5.1 rfl) fun y dy A6 H6 Δ6 e6 c6 r6 p6 => ?_)
        have e16 := e15.trans e6
        have hq5' : q ∉ A5 := fun h => c5.dj q h List.mem_cons_self
        have hq6' : q ∉ A6 := fun h => c6.dj q h List.mem_cons_self
        have hq6 : H6 q = some (.lst accV) := e6.keep q _ hq5' hq5
        have hacc6 := (hacc.ext e25).ext e6
        have mo7 : Mo (q :: S) A6 H6 (q :: S) A6 (upd H6 q (.lst (accV ++ [y]))) := ⟨⟨[], by simp, by simp⟩, fun _ h => .inl h, fun a o _ h2 h3 => by
          rw [upd_ne (fun h => h2 (by rw [h]; exact List.mem_cons_self))]; exact h3⟩
        have nq : ∀ a o, H1 a = some o → a ≠ q := fun a o h => ne_of_none h hq
        refine ⟨accV, hq6, lt_line (by rw [hacc6.length]; exact p6.1), A6, Δ6, acc ++ [dy], accV ++ [y], ?_, ?_, ?_, upd_same, ?_, p6.2⟩
        · exact ⟨e16.pre, fun a o h1 h2 => by rw [upd_ne (nq a o h2)]; exact e16.keep a o h1 h2, fun a h => by
            by_cases hb : a = q
            · subst hb; exact hq
            · rw [upd_ne hb] at h; exact e16.trk a h⟩
        · exact ⟨e16.pre, m2.sub, fun a o h1 _ h3 => by rw [upd_ne (nq a o h3)]; exact e16.keep a o h1 h3⟩
        · refine ⟨c6.len, c6.nd, c6.dj, fun a ha h => ?_, fun n a o h1 h2 => (c6.at_ n a o h1 h2).mono mo7 fun u h => ?_⟩
          · by_cases hb : a = q
            · subst hb; rw [upd_same] at h; cases h
            · rw [upd_ne hb] at h; exact c6.as a ha h
          · rw [upd_ne (fun hb => hq6' (by rw [← hb]; exact List.mem_of_getElem? h1))]; exact h
        · exact (RepL.append hacc6 (.cons r6 .nil)).mono mo7 _
    rw [wipe_wipe] at fin
    exact fin
  · rintro H2 ⟨A2, Δ2, acc, accV, e2, m2, c2, hqv, hacc, hp⟩
    rw [hn, List.drop_length] at hp
    have hq2 : q ∉ A2 := fun h => c2.dj q h List.mem_cons_self
    have mo8 : Mo (q :: S) A2 H2 S A2 H2 := ⟨⟨[], by simp, by simp⟩, fun b hb => .inl (List.mem_cons_of_mem _ hb), fun _ _ _ _ h => h⟩
    refine k _ _ A2 H2 Δ2 (e1.trans e2) ⟨c2.len, c2.nd, fun a ha hb => c2.dj a ha (List.mem_cons_of_mem _ hb), fun a ha => c2.as a (List.mem_cons_of_mem _ ha), fun n a o h1 h2 => (c2.at_ n a o h1 h2).mono mo8 fun _ h => h⟩
      (.lst hqv hq2 (c1.aside hq) (RepL.mono mo8 _ hacc)) hp
section
variable {C : CI} {X : Cx}
theorem tsz_nil : TsZ C X [] zYes := ⟨_, pts_nil, fun S A σ H Γ Δ P Q hs hc hz k => k true A H Δ (Ext.refl _ _) hc hz⟩
theorem tsz_one {c : Expr} {z : ZT} (h : TZ C X c z) : TsZ C X [c] z := by
  obtain ⟨t, h1, h2⟩ := h.ex
  exact ⟨t, pts_one h1, h2⟩
/-- what stands in a comprehension's block, whatever the block's own frame is -/
structure BlkZ (C : CI) (X : Cx) (scope : Scope) (tg : Expr) (ifs : List Expr) (elt : Expr) (g : TG) (zg : ZG) (zt : ZT) (ze : ZE) : Prop where
  ex : ∃ tt te, (∀ (s : Shared) (H : Hp) (Ca : Addr) (cl : List (Str × Addr)) (fp : List Addr), PG (X.blk s H scope (compEnvC scope cl Ca X.env) fp) tg g ∧ PTs (X.blk s H scope (compEnvC scope cl Ca X.env) fp) ifs tt ∧ PE (X.blk s H scope (compEnvC scope cl Ca X.env) fp) elt te) ∧
    RefG X.K C g zg ∧ RefT X.K C tt zt ∧ RefE X.K C te ze
theorem ez_lc {elt tg iter : Expr} {ifs : List Expr} {scope : Scope} {own : List (Str × Nat)} {pos : Pos} {zi : ZI} {g : TG} {zg : ZG} {zt : ZT} {ze : ZE} (hN : X.N.Nodup) (hi : IZ C X tg iter zi) (ok : BlkOk X.N X.env.scope scope own) (ho : Own g (own.map (·.2))) (hb : BlkZ C X scope tg ifs elt g zg zt ze)
    (hc : X.calm = true := by rfl) (hs : ∀ x, foldedSetIterable iter X.env x = pure x := by intro _; rfl) : EZ C X (.ListComp elt [⟨tg, iter, ifs, 0⟩] scope pos) (zLc zi zg zt ze (own.map (·.2))) := by
  obtain ⟨wi, i1, i2⟩ := hi.ex
  obtain ⟨tt, te, b1, b2, b3, b4⟩ := hb.ex
  exact ⟨_, pe_lc hc hN i1 ok (fun s H Ca cl fp => (b1 s H Ca cl fp).1) (fun s H Ca cl fp => (b1 s H Ca cl fp).2.1) (fun s H Ca cl fp => (b1 s H Ca cl fp).2.2) hs, ref_lc i2 b2 ho b3 b4⟩
theorem sz_setLc {i : Nat} {y : Str} {py : Pos} {elt tg iter : Expr} {ifs : List Expr} {scope : Scope} {own : List (Str × Nat)} {pos spos : Pos} {zi : ZI} {g : TG} {zg : ZG} {zt : ZT} {ze : ZE} (hN : X.N.Nodup) (hy : X.N[i]? = some y) (hyl : X.env.scope.names.lookup y = some .local)
    (hsw : swapsWith (.ListComp elt [⟨tg, iter, ifs, 0⟩] scope pos) (some (.Name y py)) spos.line X.env = pure true) (hi : IZ C X tg iter zi) (ok : BlkOk X.N X.env.scope scope own) (ho : Own g (own.map (·.2))) (hb : BlkZ C X scope tg ifs elt g zg zt ze)
    (hc : X.calm = true := by rfl) (hs : ∀ x, foldedSetIterable iter X.env x = pure x := by intro _; rfl) : SZ C X (.Assign [.Name y py] (.ListComp elt [⟨tg, iter, ifs, 0⟩] scope pos) spos) (zAsg (zLc zi zg zt ze (own.map (·.2))) (zgName i)) := by
  obtain ⟨wi, i1, i2⟩ := hi.ex
  obtain ⟨tt, te, b1, b2, b3, b4⟩ := hb.ex
  exact ⟨_, ps_setLc hc hN hy hyl hsw i1 ok (fun s H Ca cl fp => (b1 s H Ca cl fp).1) (fun s H Ca cl fp => (b1 s H Ca cl fp).2.1) (fun s H Ca cl fp => (b1 s H Ca cl fp).2.2) hs, ref_asg (ref_lc i2 b2 ho b3 b4) (gz_name (C := C) (pos := py) hN hy (.inl hyl) (.inr hyl)).ref⟩

/-! ### calls of defs -/
/-- a def's promise over data: W says of the arguments, the store and a wish what must hold ahead -/
def SpZ (K : PySem.W.Frag) (C : CI) (W : ZRC) : Sp := fun vs H Q _ => ∃ S A Δ ds P, RepL K C S A H vs ds ∧ Cells K C S A H Δ ∧ W ds Δ P ∧ ∀ v d A' H' Δ', Ext A H A' H' → Cells K C S A' H' Δ' → Rep K C S A' H' v d → P d Δ' → Q v H'
def zCall (W : ZRC) (dds : List D) (za : ZA) : ZE := fun Γ Δ P => za Γ Δ fun ds Δ1 => W (ds ++ dds) Δ1 P
variable {e : Expr} {es : List Expr} {za : ZA} {pos p : Pos} {x : Str} {k : Nat} {f : Addr} {fd : FuncData} {ps : List Str} {W : ZRC} {dvs : List V} {dds : List D} {ds : List Value}
theorem ref_call {K : PySem.W.Frag} {ta : TA} {E : XK} (ha : RefA K C ta za) (hdd : ∀ S A H, RepL K C S A H dvs dds) : RefE K C (tCall (SpZ K C W) dvs E ta) (zCall W dds za) := fun S A σ H Γ Δ P Q hs hc hz k =>
  ha S A σ H Γ Δ _ _ hs hc hz fun vs ds A1 H1 Δ1 e1 c1 r1 p => ⟨S, A1, Δ1, ds ++ dds, P, r1.append (hdd _ _ _), c1, p, fun v d A' H' Δ' e2 c2 r2 p2 => k v d A' H' Δ' (e1.trans e2) c2 r2 p2⟩
theorem ez_call (F : FnOk X.prog X.w X.K X.mg X.base CX0 k f fd ps (SpZ X.K C W)) (hr : Room k X.A) (hm : X.mg x = some (.ref f)) (hk : PySem.W.keepIn X.K (.ref f) = true) (hb : Binds X.K fd ps ds) (hd : Vals dvs ds) (hdd : ∀ S A H, RepL X.K C S A H dvs dds)
    (ha : AZ C X (e :: es) za) (hg : Gl X x := by rfl) (hdb : (x == ("__debug__" : Str)) = false := by decide) (he : starEach (e :: es) X.env = (false, eval e X.env) :: starEach es X.env := by rfl) (hpl : (backTo pos (starEach es X.env)).any (·.1) = false := by rfl) :
    EZ C X (.Call (.Name x p) (e :: es) [] pos) (zCall W dds za) := by
  obtain ⟨t, a1, a2⟩ := ha.ex
  exact ⟨_, pe_call F hr hg hm hk hb hd pass0 a1 hdb he hpl, ref_call a2 hdd⟩
/-- without defaults -/
theorem ez_calln (F : FnOk X.prog X.w X.K X.mg X.base CX0 k f fd ps (SpZ X.K C W)) (hr : Room k X.A) (hm : X.mg x = some (.ref f)) (hk : PySem.W.keepIn X.K (.ref f) = true) (hb : Binds X.K fd ps [])
    (ha : AZ C X (e :: es) za) (hg : Gl X x := by rfl) (hdb : (x == ("__debug__" : Str)) = false := by decide) (he : starEach (e :: es) X.env = (false, eval e X.env) :: starEach es X.env := by rfl) (hpl : (backTo pos (starEach es X.env)).any (·.1) = false := by rfl) :
    EZ C X (.Call (.Name x p) (e :: es) [] pos) (zCall W [] za) := ez_call F hr hm hk hb .nil (fun _ _ _ => .nil) ha hg hdb he hpl
/-- a def's body keeps its promise -/
def startZ (N : List Str) (ds : List D) : Env := ds.map some ++ List.replicate (N.length - ds.length) none
theorem slots_start {K : PySem.W.Frag} {S A : List Addr} {H : Hp} {N : List Str} {vs : List V} {ds : List D} (r : RepL K C S A H vs ds) : Slots K C S A H (L2.start N vs) (startZ N ds) := by
  refine ⟨?_, fun i d q => ?_⟩
  · unfold L2.start startZ
    rw [List.length_append, List.length_append, List.length_map, List.length_map, List.length_replicate, List.length_replicate, r.length]
  · unfold startZ at q
    unfold L2.start
    by_cases hi : i < ds.length
    · rw [List.getElem?_append_left (by rw [List.length_map]; exact hi), List.getElem?_map] at q
      cases e : ds[i]? with
      | none => rw [e] at q; cases q
      | some d' =>
        rw [e] at q
        cases q
        obtain ⟨v, h1, h2⟩ := r.get e
        exact ⟨v, by rw [List.getElem?_append_left (by rw [List.length_map, r.length]; exact hi), List.getElem?_map, h1] <;> rfl, h2⟩
    · rw [List.getElem?_append_right (by rw [List.length_map]; omega)] at q
      have := List.mem_of_getElem? q
      simp at this
theorem fnz_ok {P : Program} {w : World} {K : PySem.W.Frag} {mg : Str → Option Value} {base : Heap} {y qual : Str} {st : Stmt} {N : List Str} (F : Fun K y qual st f fd) (Sc : FnScope N ps (defScope st)) (len : ∀ ds Δ P, W ds Δ P → ds.length = ps.length)
    (body : ∀ (cdv : Value) (A : Around) (outer : List PySem.Env) (s : Shared) (H : Hp) (E : XK), Room k (A.deeper (PyProof.Rows.envOfC qual (defScope st) s.heap.objs.size f cdv)) →
      ∃ z : ZS, SZs C (cxOf CX0 P w K mg base N qual (defScope st) f cdv A outer s H E).nox (defBody st) z ∧ ∀ ds Δ P, W ds Δ P → z { nx := fun _ Δ' => P .non Δ', rt := P } (startZ N ds) Δ) : FnOk P w K mg base CX0 (k + 1) f fd ps (SpZ K C W) := by
  refine F.ok Sc (fun vs H Q E h => ?_) (fun cdv A outer s H vs Q E hr h => ?_)
  · obtain ⟨S, A, Δ, ds, P, r, _, hw, _⟩ := h
    rw [r.length]
    exact len ds Δ P hw
  · obtain ⟨S, A', Δ, ds, P', r, hc, hw, kk⟩ := h
    obtain ⟨z, hz, hzz⟩ := body cdv A outer s H E hr
    obtain ⟨ts, h1, h2⟩ := hz.ex
    refine ⟨ts, h1, h2 S A' _ H (startZ N ds) Δ { nx := fun _ Δ' => P' .non Δ', rt := P' } _ (slots_start r) hc (hzz ds Δ P' hw) ⟨?_, ?_, ?_, ?_⟩⟩
    · exact fun σ' A2 H2 Γ2 Δ2 e2 s2 c2 q => kk .non .non A2 H2 Δ2 e2 c2 .non q
    · exact fun σ' A2 H2 Γ2 Δ2 e2 s2 c2 q => q.elim
    · exact fun σ' A2 H2 Γ2 Δ2 e2 s2 c2 q => q.elim
    · exact fun v d A2 H2 Δ2 e2 c2 r2 q => kk v d A2 H2 Δ2 e2 c2 r2 q

/-! ### built-ins -/
structure CallZ (C : CI) (X : Cx) (fv : Value) (z : ZRC) : Prop where
  ex : ∃ r, CallR X fv r ∧ RefC X.K C r z
def zCB (z : ZRC) (za : ZA) : ZE := fun Γ Δ P => za Γ Δ fun ds Δ1 => z ds Δ1 P
theorem ref_cb {K : PySem.W.Frag} {r : List V → Hp → VK → Prop} {z : ZRC} {ta : TA} (hr : RefC K C r z) (ha : RefA K C ta za) : RefE K C (tCB r ta) (zCB z za) := fun S A σ H Γ Δ P Q hs hc hz k =>
  ha S A σ H Γ Δ _ _ hs hc hz fun vs ds A1 H1 Δ1 e1 c1 r1 p => hr S A1 H1 Δ1 vs ds P Q c1 r1 p fun v d A' H' Δ' e2 c2 r2 p2 => k v d A' H' Δ' (e1.trans e2) c2 r2 p2
theorem ez_callB {id : String} {z : ZRC} (hc : CallZ C X (.builtin id) z) (hm : X.mg x = none) (hv : bootBuiltins x = some (.builtin id)) (ha : AZ C X (e :: es) za) (hg : Gl X x := by rfl) (hn : x ≠ "__name__" := by decide) (hdb : (x == ("__debug__" : Str)) = false := by decide)
    (he : starEach (e :: es) X.env = (false, eval e X.env) :: starEach es X.env := by rfl) (hpl : (backTo pos (starEach es X.env)).any (·.1) = false := by rfl) : EZ C X (.Call (.Name x p) (e :: es) [] pos) (zCB z za) := by
  obtain ⟨r, c1, c2⟩ := hc.ex
  obtain ⟨t, a1, a2⟩ := ha.ex
  exact ⟨_, pe_callB c1 hg hm hv a1 hn hdb he hpl, ref_cb c2 a2⟩
theorem ez_callTy {T : String} {z : ZRC} (hc : CallZ C X (.type T) z) (hm : X.mg x = none) (hv : bootBuiltins x = some (.type T)) (ha : AZ C X (e :: es) za) (hg : Gl X x := by rfl) (hn : x ≠ "__name__" := by decide) (hdb : (x == ("__debug__" : Str)) = false := by decide)
    (he : starEach (e :: es) X.env = (false, eval e X.env) :: starEach es X.env := by rfl) (hpl : (backTo pos (starEach es X.env)).any (·.1) = false := by rfl) : EZ C X (.Call (.Name x p) (e :: es) [] pos) (zCB z za) := by
  obtain ⟨r, c1, c2⟩ := hc.ex
  obtain ⟨t, a1, a2⟩ := ha.ex
  exact ⟨_, pe_callTy c1 hg hm hv a1 hn hdb he hpl, ref_cb c2 a2⟩
/-- a module's name for a built-in (gcd) -/
theorem ez_callMod {id : String} {z : ZRC} (hc : CallZ C X (.builtin id) z) (hm : X.mg x = some (.builtin id)) (ha : AZ C X (e :: es) za) (hg : Gl X x := by rfl) (hdb : (x == ("__debug__" : Str)) = false := by decide)
    (he : starEach (e :: es) X.env = (false, eval e X.env) :: starEach es X.env := by rfl) (hpl : (backTo pos (starEach es X.env)).any (·.1) = false := by rfl) : EZ C X (.Call (.Name x p) (e :: es) [] pos) (zCB z za) := by
  obtain ⟨r, c1, c2⟩ := hc.ex
  obtain ⟨t, a1, a2⟩ := ha.ex
  exact ⟨_, pe_callBfun c1 hg hm a1 hdb he hpl, ref_cb c2 a2⟩
def zLen : ZRC := fun ds Δ P => ∃ d es, ds = [d] ∧ seqD Δ d = some es ∧ P (.int (es.length : Int)) Δ
theorem one_rep {K : PySem.W.Frag} {S A : List Addr} {H : Hp} {vs : List V} {d : D} (r : RepL K C S A H vs [d]) : ∃ v, vs = [v] ∧ Rep K C S A H v d := by
  cases r with
  | cons h r => cases r; exact ⟨_, rfl, h⟩
theorem two_rep {K : PySem.W.Frag} {S A : List Addr} {H : Hp} {vs : List V} {d d' : D} (r : RepL K C S A H vs [d, d']) : ∃ v v', vs = [v, v'] ∧ Rep K C S A H v d ∧ Rep K C S A H v' d' := by
  cases r with
  | cons h r => obtain ⟨v', rfl, h'⟩ := one_rep r; exact ⟨_, v', rfl, h, h'⟩
theorem cz_len : CallZ C X (.builtin "len") zLen := ⟨_, call_len_seq, fun S A H Δ xs ds P Q hc r hz k => by
  obtain ⟨d, es, rfl, hd, q⟩ := hz
  obtain ⟨v, rfl, rv⟩ := one_rep r
  obtain ⟨pa, ys, rfl, hq, rr⟩ := Rep.seq hc rv hd
  refine ⟨pa, ys, rfl, hq, k _ _ A H Δ (Ext.refl _ _) hc ?_ q⟩
  rw [rr.length]
  exact .int _⟩
def zSum : ZRC := fun ds Δ P => ∃ (d : D) (ns : List Int), ds = [d] ∧ lstD Δ d = some (ns.map D.int) ∧ P (.int ns.sum) Δ
theorem repL_int {K : PySem.W.Frag} {S A : List Addr} {H : Hp} : ∀ {ns : List Int} {vs : List V}, RepL K C S A H vs (ns.map D.int) → vs = ns.map V.int
  | [], _, r => by cases r; rfl
  | n :: ns, _, r => by
    rw [List.map_cons] at r
    cases r with
    | cons h r => cases h; rw [repL_int r] <;> rfl
theorem repL_bl {K : PySem.W.Frag} {S A : List Addr} {H : Hp} : ∀ {ns : List Bool} {vs : List V}, RepL K C S A H vs (ns.map D.bl) → vs = ns.map V.bl
  | [], _, r => by cases r; rfl
  | n :: ns, _, r => by
    rw [List.map_cons] at r
    cases r with
    | cons h r => cases h; rw [repL_bl r] <;> rfl
theorem cz_sum (hc : X.calm = true := by rfl) : CallZ C X (.builtin "sum") zSum := ⟨_, cr_sum hc, fun S A H Δ xs ds P Q hc r hz k => by
  obtain ⟨d, ns, rfl, hd, q⟩ := hz
  obtain ⟨v, rfl, rv⟩ := one_rep r
  obtain ⟨pa, ys, rfl, hq, rr⟩ := Rep.lst_ hc rv hd
  obtain rfl := repL_int rr
  exact ⟨pa, ns, rfl, SqL.of hq, k _ _ A H Δ (Ext.refl _ _) hc (.int _) q⟩⟩
def zAny : ZRC := fun ds Δ P => ∃ (d : D) (bs : List Bool), ds = [d] ∧ lstD Δ d = some (bs.map D.bl) ∧ P (.bl (bs.any id)) Δ
theorem cz_any (hc : X.calm = true := by rfl) : CallZ C X (.builtin "any") zAny := ⟨_, cr_any hc, fun S A H Δ xs ds P Q hc r hz k => by
  obtain ⟨d, ns, rfl, hd, q⟩ := hz
  obtain ⟨v, rfl, rv⟩ := one_rep r
  obtain ⟨pa, ys, rfl, hq, rr⟩ := Rep.lst_ hc rv hd
  obtain rfl := repL_bl rr
  exact ⟨pa, ns, rfl, SqL.of hq, k _ _ A H Δ (Ext.refl _ _) hc (.bl _) q⟩⟩
def zAll : ZRC := fun ds Δ P => ∃ (d : D) (bs : List Bool), ds = [d] ∧ lstD Δ d = some (bs.map D.bl) ∧ P (.bl (bs.all id)) Δ
theorem cz_all (hc : X.calm = true := by rfl) : CallZ C X (.builtin "all") zAll := ⟨_, cr_all hc, fun S A H Δ xs ds P Q hc r hz k => by
  obtain ⟨d, ns, rfl, hd, q⟩ := hz
  obtain ⟨v, rfl, rv⟩ := one_rep r
  obtain ⟨pa, ys, rfl, hq, rr⟩ := Rep.lst_ hc rv hd
  obtain rfl := repL_bl rr
  exact ⟨pa, ns, rfl, SqL.of hq, k _ _ A H Δ (Ext.refl _ _) hc (.bl _) q⟩⟩
def zAbs : ZRC := fun ds Δ P => ∃ i, ds = [.int i] ∧ P (.int (if i < 0 then -i else i)) Δ
theorem cz_abs : CallZ C X (.builtin "abs") zAbs := ⟨_, call_abs, fun S A H Δ xs ds P Q hc r hz k => by
  obtain ⟨i, rfl, q⟩ := hz
  obtain ⟨v, rfl, rv⟩ := one_rep r
  cases rv
  exact ⟨i, rfl, k _ _ A H Δ (Ext.refl _ _) hc (.int _) q⟩⟩
def zMax2 : ZRC := fun ds Δ P => ∃ i j, ds = [.int i, .int j] ∧ P (.int (if j > i then j else i)) Δ
theorem cz_max2 (hc : X.calm = true := by rfl) : CallZ C X (.builtin "max") zMax2 := ⟨_, call_max2 hc, fun S A H Δ xs ds P Q hc r hz k => by
  obtain ⟨i, j, rfl, q⟩ := hz
  obtain ⟨v, v', rfl, rv, rv'⟩ := two_rep r
  cases rv
  cases rv'
  exact ⟨i, j, rfl, k _ _ A H Δ (Ext.refl _ _) hc (.int _) q⟩⟩
def zMin2 : ZRC := fun ds Δ P => ∃ i j, ds = [.int i, .int j] ∧ P (.int (if j < i then j else i)) Δ
theorem cz_min2 (hc : X.calm = true := by rfl) : CallZ C X (.builtin "min") zMin2 := ⟨_, call_min2 hc, fun S A H Δ xs ds P Q hc r hz k => by
  obtain ⟨i, j, rfl, q⟩ := hz
  obtain ⟨v, v', rfl, rv, rv'⟩ := two_rep r
  cases rv
  cases rv'
  exact ⟨i, j, rfl, k _ _ A H Δ (Ext.refl _ _) hc (.int _) q⟩⟩
def zInt : ZRC := fun ds Δ P => (∃ i, ds = [.int i] ∧ P (.int i) Δ) ∨ ∃ b, ds = [.bl b] ∧ P (.int (if b then 1 else 0)) Δ
theorem cz_int : CallZ C X (.type "int") zInt := ⟨_, call_int1, fun S A H Δ xs ds P Q hc r hz k => by
  rcases hz with ⟨i, rfl, q⟩ | ⟨b, rfl, q⟩
  · obtain ⟨v, rfl, rv⟩ := one_rep r
    cases rv
    exact .inl ⟨i, rfl, k _ _ A H Δ (Ext.refl _ _) hc (.int _) q⟩
  · obtain ⟨v, rfl, rv⟩ := one_rep r
    cases rv
    exact .inr ⟨b, rfl, k _ _ A H Δ (Ext.refl _ _) hc (.int _) q⟩⟩
/-- list(xs): a new list; as a cell -/
def zList : ZRC := fun ds Δ P => ∃ d es, ds = [d] ∧ seqD Δ d = some es ∧ P (.lst es) Δ
def zListC : ZRC := fun ds Δ P => ∃ d es, ds = [d] ∧ seqD Δ d = some es ∧ P (.cell Δ.length) (Δ ++ [.lst es])
theorem cz_list : CallZ C X (.type "list") zList := ⟨_, call_list_of, fun S A H Δ xs ds P Q hc r hz k => by
  obtain ⟨d, es, rfl, hd, q⟩ := hz
  obtain ⟨v, rfl, rv⟩ := one_rep r
  obtain ⟨pa, ys, rfl, hq, rr⟩ := Rep.seq hc rv hd
  refine ⟨pa, ys, rfl, hq, fun l hl => ?_⟩
  exact k _ _ A _ Δ (Ext.new hl) (hc.new hl) (.lst upd_same (hc.fresh hl) (hc.aside hl) (rr.ext (Ext.new hl))) q⟩
theorem cz_listC : CallZ C X (.type "list") zListC := ⟨_, call_list_of, fun S A H Δ xs ds P Q hc r hz k => by
  obtain ⟨d, es, rfl, hd, q⟩ := hz
  obtain ⟨v, rfl, rv⟩ := one_rep r
  obtain ⟨pa, ys, rfl, hq, rr⟩ := Rep.seq hc rv hd
  refine ⟨pa, ys, rfl, hq, fun l hl => ?_⟩
  refine k _ _ (A ++ [l]) _ _ (Ext.newCell hl) (hc.newCell hl rr) (.cell ?_) q
  rw [← hc.len, List.getElem?_append_right (Nat.le_refl _), Nat.sub_self]
  rfl⟩
def zGcd : ZRC := fun ds Δ P => ∃ i j : Int, ds = [.int i, .int j] ∧ P (.int (Int.gcd i j : Nat)) Δ
theorem cz_gcd : CallZ C X (.builtin "math.gcd") zGcd := ⟨_, cr_gcd, fun S A H Δ xs ds P Q hc r hz k => by
  obtain ⟨i, j, rfl, q⟩ := hz
  obtain ⟨v, v', rfl, rv, rv'⟩ := two_rep r
  cases rv
  cases rv'
  exact ⟨i, j, rfl, k _ _ A H Δ (Ext.refl _ _) hc (.int _) q⟩⟩

/-! ### xs.append(e) -/
def zAppend (zo : ZE) (za : ZA) : ZE := fun Γ Δ P => zo Γ Δ fun o Δ1 => (∃ n ds, o = .cell n ∧ Δ1[n]? = some (.lst ds)) ∧ za Γ Δ1 fun as Δ2 => ∃ n ds y, o = .cell n ∧ Δ2[n]? = some (.lst ds) ∧ as = [y] ∧ ds.length < 100000 ∧ P .non (Δ2.set n (.lst (ds ++ [y])))
variable {o : Expr} {zo : ZE} {apos cpos : Pos}
theorem ez_append (ho : EZ C X o zo) (ha : AZ C X (e :: es) za)
    (hbase : attributeBase o "append" X.env (eval o X.env) = eval o X.env := by rfl)
    (hfew : ((backTo cpos (starEach (e :: es) X.env)).all (fun x => !x.1) && (backToKw cpos (keywordEach [] X.env)).all (fun x => x.1.isSome)
      && decide ((e :: es).length + ([] : List Keyword).length + (if ([] : List Keyword).isEmpty then 0 else 1) < 30)) = true := by rfl)
    (hline : (apos.endLine == cpos.line) = true := by rfl) (hs : starEach (e :: es) X.env = (false, eval e X.env) :: starEach es X.env := by rfl) (hplain : (backTo cpos (starEach es X.env)).any (·.1) = false := by rfl) :
    EZ C X (.Call (.Attribute o "append" apos) (e :: es) [] cpos) (zAppend zo za) := by
  obtain ⟨t, o1, o2⟩ := ho.ex
  obtain ⟨u, a1, a2⟩ := ha.ex
  refine ⟨_, pe_bm PySem.F.plainAttrs_list PySem.F.slot_list_append PySem.F.type_list_append mt_append o1 a1 hbase hfew hline hs hplain, fun S A σ H Γ Δ P Q hs hc hz k => o2 S A σ H Γ Δ _ _ hs hc hz fun v d A1 H1 Δ1 e1 c1 r1 p => ?_⟩
  obtain ⟨⟨n, ds, rfl, hd⟩, p⟩ := p
  cases r1 with
  | cell g =>
    obtain ⟨xs, g1, g2⟩ := c1.at_ n _ _ g hd
    refine ⟨.inl ⟨rfl, _, SqL.of g1⟩, a2 S A1 σ H1 Γ Δ1 _ _ (hs.ext e1) c1 p fun vs as A2 H2 Δ2 e2 c2 r2 p2 => ?_⟩
    obtain ⟨n', ds', y, hn, hd', rfl, hl, p2⟩ := p2
    cases hn
    obtain ⟨v, rfl, rv⟩ := one_rep r2
    rename_i pa
    have g' : A2[n]? = some pa := by
      obtain ⟨B, hB, _⟩ := e2.pre
      rw [hB, List.getElem?_append_left (List.getElem?_eq_some_iff.mp g).1]
      exact g
    obtain ⟨xs', g3, g4⟩ := c2.at_ n _ _ g' hd'
    have q := c2.put g' (g4.append (.cons rv .nil))
    exact ⟨_, xs', v, rfl, rfl, g3, lt_line (by rw [g4.length]; exact hl), k _ _ A2 _ _ ((e1.trans e2).trans q.2) q.1 .non p2⟩

/-! ### zip, enumerate -/
def ziZip (za : ZA) : ZI := fun Γ Δ P => za Γ Δ fun ds Δ1 => ∃ xs ys, ds = [.lst xs, .lst ys] ∧ P ((xs.zip ys).map fun q => .tup [q.1, q.2]) Δ1
theorem iz_zip {e e2 : Expr} {tpos : Pos} {elts : List Expr} {kk : Nat} (ha : AZ C X [e, e2] za) (hm : X.mg "zip" = none) (hg : Gl X "zip" := by rfl)
    (hs : starEach [e, e2] X.env = (false, eval e X.env) :: starEach [e2] X.env := by rfl) (hpl : (backTo pos (starEach [e2] X.env)).any (·.1) = false := by rfl) : IZ C X (.Tuple elts kk tpos) (.Call (.Name "zip" p) [e, e2] [] pos) (ziZip za) := by
  obtain ⟨t, a1, a2⟩ := ha.ex
  refine ⟨_, pi_zip hg hm a1 hs hpl, fun S A σ H Γ Δ P R hs hc hz k => a2 S A σ H Γ Δ _ _ hs hc hz fun vs ds A1 H1 Δ1 e1 c1 r1 q => ?_⟩
  obtain ⟨xs, ys, rfl, q⟩ := q
  obtain ⟨v, v', rfl, rv, rv'⟩ := two_rep r1
  cases rv with
  | lst g1 g2 g3 g4 =>
    cases rv' with
    | lst h1 h2 h3 h4 =>
      rename_i a us b ws
      refine ⟨a, b, us, ws, rfl, SqL.of g1, SqL.of h1, ?_⟩
      refine k (Itz X.K a b) (min us.length ws.length) _ _ _ A1 H1 Δ1 e1 c1 q (by rw [List.length_map, List.length_zip, g4.length, h4.length]) (walk_zip rfl) (fun S2 A2 H2 m => ⟨SqL.of (m.keep _ _ g2 g3 g1), SqL.of (m.keep _ _ h2 h3 h1)⟩) fun S2 A2 H2 Δ2 i x H3 hi m c2 y => ?_
      obtain ⟨T, y1, y2, rfl, nT, rfl, f1, f2⟩ := y
      obtain ⟨d1, q1, q2⟩ := (RepL.mono m _ g4).getV f1
      obtain ⟨d2, q3, q4⟩ := (RepL.mono m _ h4).getV f2
      refine ⟨.tup [d1, d2], ?_, fun b o h => by rw [upd_ne (ne_of_none h nT)]; exact h, .tup upd_same (c2.fresh nT) (c2.aside nT) (.cons (q2.ext (Ext.new nT)) (.cons (q4.ext (Ext.new nT)) .nil))⟩
      rw [List.getElem?_map, List.getElem?_zip_eq_some.mpr (show xs[i]? = some (d1, d2).1 ∧ ys[i]? = some (d1, d2).2 from ⟨q1, q3⟩)]
      rfl
def enumD (xs : List D) : List D := xs.zipIdx.map fun q => .tup [.int (q.2 : Nat), q.1]
def ziEnum (za : ZA) : ZI := fun Γ Δ P => za Γ Δ fun ds Δ1 => ∃ xs, ds = [.lst xs] ∧ P (enumD xs) Δ1
theorem iz_enum {e : Expr} {tpos : Pos} {elts : List Expr} {kk : Nat} (ha : AZ C X [e] za) (hm : X.mg "enumerate" = none) (hg : Gl X "enumerate" := by rfl) (hs : starEach [e] X.env = [(false, eval e X.env)] := by rfl) : IZ C X (.Tuple elts kk tpos) (.Call (.Name "enumerate" p) [e] [] pos) (ziEnum za) := by
  obtain ⟨t, a1, a2⟩ := ha.ex
  refine ⟨_, pi_enum hg hm a1 hs, fun S A σ H Γ Δ P R hs hc hz k => a2 S A σ H Γ Δ _ _ hs hc hz fun vs ds A1 H1 Δ1 e1 c1 r1 q => ?_⟩
  obtain ⟨xs, rfl, q⟩ := q
  obtain ⟨v, rfl, rv⟩ := one_rep r1
  cases rv with
  | lst g1 g2 g3 g4 =>
    rename_i a us
    refine ⟨a, us, rfl, SqL.of g1, ?_⟩
    refine k (Ite X.K a) us.length _ _ _ A1 H1 Δ1 e1 c1 q (by unfold enumD; rw [List.length_map, List.length_zipIdx, g4.length]) walk_enum (fun S2 A2 H2 m => SqL.of (m.keep _ _ g2 g3 g1)) fun S2 A2 H2 Δ2 i x H3 hi m c2 y => ?_
    obtain ⟨T, y1, y2, rfl, nT, rfl, f1, f2⟩ := y
    cases f1
    obtain ⟨d2, q3, q4⟩ := (RepL.mono m _ g4).getV f2
    refine ⟨.tup [.int (i : Nat), d2], ?_, fun b o h => by rw [upd_ne (ne_of_none h nT)]; exact h, .tup upd_same (c2.fresh nT) (c2.aside nT) (.cons (.int _) (.cons (q4.ext (Ext.new nT)) .nil))⟩
    unfold enumD
    rw [List.getElem?_map, List.getElem?_zipIdx, q3]
    simp
end
end Z

/-! Z5: own classes over data: attributes, properties, methods, calls of instances, making, ==; isinstance. -/
namespace Z
open PySem L2

/-! ### attributes -/
def fldD (C : CI) (Δ : Store) (c : Nat) (f : Str) : D → Option D
  | .ins c' ds => if c' = c then ((C.nms c).zip ds).lookup f else none
  | .cell n => match Δ[n]? with
    | some (.ins c' fs) => if c' = c then fs.lookup f else none
    | _ => none
  | _ => none
/-- an instance of the class c -/
def insD (Δ : Store) (c : Nat) (x : D) : Prop := (∃ ds, x = .ins c ds) ∨ ∃ n fs, x = .cell n ∧ Δ[n]? = some (.ins c fs)
section
variable {K : PySem.W.Frag} {C : CI} {S A : List Addr} {H : Hp} {Δ : Store}
theorem zip_lookup {f : Str} {d : D} : ∀ {ns : List Str} {xs : List V} {ds : List D}, RepL K C S A H xs ds → (ns.zip ds).lookup f = some d → ∃ v, (ns.zip xs).lookup f = some v ∧ Rep K C S A H v d
  | [], _, _, _, h => by simp at h
  | _ :: _, _, _, .nil, h => by simp at h
  | n :: ns, _, _, .cons h1 r, h => by
    rw [List.zip_cons_cons, List.lookup_cons] at h ⊢
    cases e : f == n with
    | true =>
      rw [e] at h
      cases h
      exact ⟨_, rfl, h1⟩
    | false =>
      rw [e] at h
      exact zip_lookup r h
theorem prs_lookup {f : Str} {d : D} : ∀ {xs : List (Str × V)} {fs : List (Str × D)}, xs.map (·.1) = fs.map (·.1) → RepL K C S A H (xs.map (·.2)) (fs.map (·.2)) → fs.lookup f = some d → ∃ v, xs.lookup f = some v ∧ Rep K C S A H v d
  | [], [], _, _, h => by simp at h
  | [], _ :: _, e, _, _ => by simp at e
  | _ :: _, [], e, _, _ => by simp at e
  | (n, x) :: xs, (m, y) :: fs, e, r, h => by
    rw [List.map_cons, List.map_cons] at e r
    obtain ⟨e1, e2⟩ := List.cons.inj e
    have e1 : n = m := e1
    subst e1
    cases r with
    | cons h1 r =>
      rw [List.lookup_cons] at h ⊢
      cases q : f == n with
      | true =>
        simp only [q] at h ⊢
        cases h
        exact ⟨_, rfl, h1⟩
      | false =>
        simp only [q] at h ⊢
        exact prs_lookup e2 r h
theorem Rep.fld {x : V} {d0 d : D} {c : Nat} {f : Str} (hc : Cells K C S A H Δ) (r : Rep K C S A H x d0) (h : fldD C Δ c f d0 = some d) :
    ∃ a dx fs v, x = .ref a ∧ H a = some (.ins (C.adr c) dx fs) ∧ fs.lookup f = some v ∧ Rep K C S A H v d := by
  cases r with
  | ins h1 h2 h3 h4 h5 =>
    rename_i a dx c' xs ds
    have h : (if c' = c then ((C.nms c).zip ds).lookup f else none) = some d := h
    by_cases e : c' = c
    · subst e
      rw [if_pos rfl] at h
      obtain ⟨v, g1, g2⟩ := zip_lookup h5 h
      exact ⟨_, _, _, v, rfl, h1, g1, g2⟩
    · rw [if_neg e] at h
      cases h
  | cell e =>
    rename_i a n
    unfold fldD at h
    cases q : Δ[n]? with
    | none => simp only [q] at h; cases h
    | some o =>
      cases o with
      | lst _ => simp only [q] at h; cases h
      | dct _ _ => simp only [q] at h; cases h
      | ins c' fs =>
        simp only [q] at h
        by_cases e2 : c' = c
        · subst e2
          rw [if_pos rfl] at h
          obtain ⟨dx, xs, g1, g2, g3⟩ := hc.at_ n a _ e q
          obtain ⟨v, g4, g5⟩ := prs_lookup g2 g3 h
          exact ⟨a, dx, xs, v, rfl, g1, g4, g5⟩
        · rw [if_neg e2] at h
          cases h
  | non => exact nomatch h
  | dct _ _ _ _ _ => exact nomatch h
  | bl b => exact nomatch h
  | int b => exact nomatch h
  | str b => exact nomatch h
  | ty b => exact nomatch h
  | tup _ _ _ _ => exact nomatch h
  | lst _ _ _ _ => exact nomatch h
  | scr _ => exact nomatch h
  | cls _ => exact nomatch h
theorem Rep.inst {x : V} {d0 : D} {c : Nat} (hc : Cells K C S A H Δ) (r : Rep K C S A H x d0) (h : insD Δ c d0) : ∃ a dx fs, x = .ref a ∧ H a = some (.ins (C.adr c) dx fs) := by
  rcases h with ⟨ds, rfl⟩ | ⟨n, fs, rfl, q⟩
  · cases r with
    | ins h1 h2 h3 h4 h5 => exact ⟨_, _, _, rfl, h1⟩
  · cases r with
    | cell e =>
      obtain ⟨dx, xs, g1, _⟩ := hc.at_ n _ _ e q
      exact ⟨_, _, _, rfl, g1⟩
end
def zFld (C : CI) (c : Nat) (f : Str) (z : ZE) : ZE := fun Γ Δ P => z Γ Δ fun x Δ1 => ∃ d, fldD C Δ1 c f x = some d ∧ P d Δ1
/-- a property: its getter's promise -/
def zProp (c : Nat) (W : ZRC) (z : ZE) : ZE := fun Γ Δ P => z Γ Δ fun x Δ1 => insD Δ1 c x ∧ W [x] Δ1 P
section
variable {C : CI} {X : Cx} {e : Expr} {es : List Expr} {ze : ZE} {za : ZA} {pos p : Pos} {x : Str} {k : Nat} {f g : Addr} {fd : FuncData} {ps : List Str} {W : ZRC} {dvs : List V} {dds : List D} {ds : List Value}
theorem ez_fld {c : Nat} {f : Str} (he : EZ C X e ze) (cl : Cls X.K (C.adr c)) (n : NoAttr X.K (C.adr c) f) (hb : attributeBase e f X.env (eval e X.env) = eval e X.env := by rfl) : EZ C X (.Attribute e f pos) (zFld C c f ze) := by
  obtain ⟨t, h1, h2⟩ := he.ex
  refine ⟨_, pe_fld h1 hb, fun S A σ H Γ Δ P Q hs hc hz k => h2 S A σ H Γ Δ _ _ hs hc hz fun v d A1 H1 Δ1 e1 c1 r1 p => ?_⟩
  obtain ⟨d2, hd, p⟩ := p
  obtain ⟨a, dx, fs, w, rfl, g1, g2, g3⟩ := r1.fld c1 hd
  exact ⟨a, _, dx, fs, w, rfl, g1, cl, n, g2, k w d2 A1 H1 Δ1 e1 c1 g3 p⟩
theorem ez_prop {c : Nat} {nm : Str} {pr : Addr} (he : EZ C X e ze) (cl : Cls X.K (C.adr c)) (hp : PropOf X.K (C.adr c) nm pr g) (F : FnOk X.prog X.w X.K X.mg X.base CX0 k g fd ps (SpZ X.K C W)) (hr : Room (k + 1) X.A) (hb : Binds X.K fd ps [])
    (hab : attributeBase e nm X.env (eval e X.env) = eval e X.env := by rfl) : EZ C X (.Attribute e nm pos) (zProp c W ze) := by
  obtain ⟨t, h1, h2⟩ := he.ex
  refine ⟨_, pe_prop h1 cl hp F hr hb .nil (E := E0) (fun _ _ _ _ _ _ _ h => h.elim) hab, fun S A σ H Γ Δ P Q hs hc hz k => h2 S A σ H Γ Δ _ _ hs hc hz fun v d A1 H1 Δ1 e1 c1 r1 p => ?_⟩
  obtain ⟨hi, p⟩ := p
  obtain ⟨a, dx, fs, rfl, g1⟩ := r1.inst c1 hi
  exact ⟨a, dx, fs, rfl, g1, S, A1, Δ1, [d], P, .cons r1 .nil, c1, p, fun v d A' H' Δ' e2 c2 r2 p2 => k v d A' H' Δ' (e1.trans e2) c2 r2 p2⟩
/-- x(e, ..), x an instance of the class c -/
def zCallO (c : Nat) (W : ZRC) (zf : ZE) (za : ZA) : ZE := fun Γ Δ P => zf Γ Δ fun y Δ1 => insD Δ1 c y ∧ za Γ Δ1 fun ds Δ2 => insD Δ2 c y ∧ W (y :: ds) Δ2 P
theorem ez_callO {c : Nat} {fe : Expr} {zf : ZE} (hf : EZ C X fe zf) (co : StX.CallO X.K (C.adr c) g) (F : FnOk X.prog X.w X.K X.mg X.base CX0 k g fd ps (SpZ X.K C W)) (hr : Room k X.A) (hb : Binds X.K fd ps []) (ha : AZ C X (e :: es) za)
    (ht : eval (.Call fe (e :: es) [] pos) X.env = (do callWith pos (← eval fe X.env) [] (backTo pos (starEach (e :: es) X.env)) (backToKw pos (keywordEach [] X.env))) := by rfl)
    (he : starEach (e :: es) X.env = (false, eval e X.env) :: starEach es X.env := by rfl) (hpl : (backTo pos (starEach es X.env)).any (·.1) = false := by rfl) : EZ C X (.Call fe (e :: es) [] pos) (zCallO c W zf za) := by
  obtain ⟨t, f1, f2⟩ := hf.ex
  obtain ⟨u, a1, a2⟩ := ha.ex
  have FR : FnR X.prog X.w X.K X.mg X.base CX0 k g (fun vs H Q E => SpZ X.K C W (vs ++ []) H Q E) := F.raw hb .nil
  refine ⟨_, StX.pe_callO f1 co FR hr (E := E0) pass0 a1 ht he hpl, fun S A σ H Γ Δ P Q hs hc hz k => f2 S A σ H Γ Δ _ _ hs hc hz fun v d A1 H1 Δ1 e1 c1 r1 p => ?_⟩
  obtain ⟨hi0, p⟩ := p
  have hv : ∃ a, v = .ref a := by
    obtain ⟨a, _, _, ea, _⟩ := r1.inst c1 hi0
    exact ⟨a, ea⟩
  obtain ⟨a, rfl⟩ := hv
  refine ⟨a, rfl, a2 S A1 σ H1 Γ Δ1 _ _ (hs.ext e1) c1 p fun vs ds A2 H2 Δ2 e2 c2 r2 p2 => ?_⟩
  obtain ⟨hi, p2⟩ := p2
  have r1' := r1.ext e2
  obtain ⟨a', dx, fs, ea, g1⟩ := r1'.inst c2 hi
  cases ea
  exact ⟨.inr ⟨dx, fs, g1⟩, S, A2, Δ2, d :: ds, P, by rw [List.append_nil]; exact .cons r1' r2, c2, p2, fun v d A' H' Δ' e3 c3 r3 p3 => k v d A' H' Δ' ((e1.trans e2).trans e3) c3 r3 p3⟩
end

/-! ### stores into attributes -/
def putFd (f : Str) (v : D) : List (Str × D) → List (Str × D)
  | [] => [(f, v)]
  | (g, x) :: r => if g = f then (g, v) :: r else (g, x) :: putFd f v r
def zSetF (c : Nat) (f : Str) (zo zv : ZE) : ZS := fun Z Γ Δ => zv Γ Δ fun y Δ1 => zo Γ Δ1 fun o Δ2 => ∃ n fs, o = .cell n ∧ Δ2[n]? = some (.ins c fs) ∧ fs.length < 1000 ∧ Z.nx Γ (Δ2.set n (.ins c (putFd f y fs)))
section
variable {K : PySem.W.Frag} {C : CI} {S A : List Addr} {H : Hp} {Δ : Store}
theorem putF_rep {f : Str} {v : V} {d : D} (r : Rep K C S A H v d) : ∀ {xs : List (Str × V)} {fs : List (Str × D)}, xs.map (·.1) = fs.map (·.1) → RepL K C S A H (xs.map (·.2)) (fs.map (·.2)) →
    (putF f v xs).map (·.1) = (putFd f d fs).map (·.1) ∧ RepL K C S A H ((putF f v xs).map (·.2)) ((putFd f d fs).map (·.2))
  | [], [], _, _ => ⟨rfl, .cons r .nil⟩
  | [], _ :: _, e, _ => by simp at e
  | _ :: _, [], e, _ => by simp at e
  | (n, x) :: xs, (m, y) :: fs, e, rr => by
    rw [List.map_cons, List.map_cons] at e rr
    obtain ⟨e1, e2⟩ := List.cons.inj e
    have e1 : n = m := e1
    subst e1
    cases rr with
    | cons h1 rr =>
      unfold putF putFd
      by_cases q : n = f
      · rw [if_pos q, if_pos q]
        exact ⟨by rw [List.map_cons, List.map_cons, e2], .cons r rr⟩
      · rw [if_neg q, if_neg q]
        obtain ⟨g1, g2⟩ := putF_rep r e2 rr
        exact ⟨by rw [List.map_cons, List.map_cons, g1], .cons h1 g2⟩
end
section
variable {C : CI} {X : Cx} {o value : Expr} {zo zv : ZE} {pos pos' : Pos} {f : Str}
theorem sz_setF {c : Nat} (ho : EZ C X o zo) (hv : EZ C X value zv) (cl : Cls X.K (C.adr c)) (n : NoAttr X.K (C.adr c) f) (hs : swapsWith value (some (.Attribute o f pos')) pos.line X.env = pure false := by rfl) : SZ C X (.Assign [.Attribute o f pos'] value pos) (zSetF c f zo zv) := by
  obtain ⟨t, o1, o2⟩ := ho.ex
  obtain ⟨u, v1, v2⟩ := hv.ex
  refine ⟨_, ps_fld o1 v1 hs, fun S A σ H Γ Δ Z N hs hc hz k => v2 S A σ H Γ Δ _ _ hs hc hz fun y dy A1 H1 Δ1 e1 c1 r1 p => o2 S A1 σ H1 Γ Δ1 _ _ (hs.ext e1) c1 p fun w dw A2 H2 Δ2 e2 c2 r2 p => ?_⟩
  obtain ⟨m, fs, rfl, hm, hl, p⟩ := p
  cases r2 with
  | cell g =>
    rename_i a
    obtain ⟨dx, xs, g1, g2, g3⟩ := c2.at_ m a _ g hm
    have hlen : xs.length = fs.length := by have := congrArg List.length g2; rw [List.length_map, List.length_map] at this; exact this
    have hp : a ∈ A2 := List.mem_of_getElem? g
    have ew : Ext A2 H2 A2 (upd H2 a (.ins (C.adr c) dx (putF f y xs))) := Ext.write hp (by rw [g1]; simp)
    obtain ⟨q1, q2⟩ := putF_rep (f := f) (r1.ext e2) g2 g3
    have q := c2.putO (u := .ins (C.adr c) dx (putF f y xs)) (o := .ins c (putFd f dy fs)) g ⟨dx, _, upd_same, q1, q2.ext ew⟩
    exact ⟨a, C.adr c, dx, xs, rfl, g1, cl, n, by rw [hlen]; exact hl, k.nx σ A2 _ Γ _ ((e1.trans e2).trans q.2) ((hs.ext (e1.trans e2)).ext q.2) q.1 p⟩
end

/-! ### an instance is made and never changed again -/
mutual
def below (m : Nat) : D → Bool
  | .cell n => decide (n < m)
  | .tup ds | .lst ds | .ins _ ds | .dct _ ds => belowL m ds
  | _ => true
def belowL (m : Nat) : List D → Bool
  | [] => true
  | d :: ds => below m d && belowL m ds
end
section
variable {K : PySem.W.Frag} {C : CI} {S A : List Addr} {H : Hp} {Δ : Store} {x : Addr}
theorem notMem_left {a : Addr} (h : a ∉ A ++ [x]) : a ∉ A := fun q => h (List.mem_append_left _ q)
mutual
theorem Rep.drop : ∀ (d : D) {v : V}, below A.length d = true → Rep K C S (A ++ [x]) H v d → Rep K C S A H v d
  | .non, _, _, h => by cases h; exact .non
  | .bl b, _, _, h => by cases h; exact .bl b
  | .int i, _, _, h => by cases h; exact .int i
  | .str x, _, _, h => by cases h; exact .str x
  | .ty n, _, _, h => by cases h; exact .ty n
  | .cls c, _, _, h => by cases h; exact .cls c
  | .tup ds, _, hb, h => by cases h with | tup h hA hS r => exact .tup h (notMem_left hA) hS (RepL.drop_ ds hb r)
  | .lst ds, _, hb, h => by cases h with | lst h hA hS r => exact .lst h (notMem_left hA) hS (RepL.drop_ ds hb r)
  | .ins c ds, _, hb, h => by cases h with | ins h hA hS hl r => exact .ins h (notMem_left hA) hS hl (RepL.drop_ ds hb r)
  | .dct ks ds, _, hb, h => by cases h with | dct h hA hS hl r => exact .dct h (notMem_left hA) hS hl (RepL.drop_ ds hb r)
  | .cell n, _, hb, h => by
    cases h with
    | cell h =>
      have hn : n < A.length := of_decide_eq_true hb
      rw [List.getElem?_append_left hn] at h
      exact .cell h
  | .scr ns, _, _, h => by
    cases h with
    | scr h =>
      rcases h with ⟨h, hA, hS⟩ | h
      · exact .scr (.inl ⟨h, notMem_left hA, hS⟩)
      · exact .scr (.inr h)
theorem RepL.drop_ : ∀ (ds : List D) {vs : List V}, belowL A.length ds = true → RepL K C S (A ++ [x]) H vs ds → RepL K C S A H vs ds
  | [], _, _, h => by cases h; exact .nil
  | d :: ds, _, hb, h => by
    have hb' : (below A.length d && belowL A.length ds) = true := hb
    rw [Bool.and_eq_true] at hb'
    cases h with
    | cons h r => exact .cons (Rep.drop d hb'.1 h) (RepL.drop_ ds hb'.2 r)
end
mutual
theorem Rep.blw : ∀ (d : D) {v : V}, Rep K C S A H v d → below A.length d = true
  | .non, _, h => rfl
  | .bl b, _, h => rfl
  | .int i, _, h => rfl
  | .str x, _, h => rfl
  | .ty n, _, h => rfl
  | .cls c, _, h => rfl
  | .tup ds, _, h => by cases h with | tup h hA hS r => exact RepL.blw ds r
  | .lst ds, _, h => by cases h with | lst h hA hS r => exact RepL.blw ds r
  | .ins c ds, _, h => by cases h with | ins h hA hS hl r => exact RepL.blw ds r
  | .dct ks ds, _, h => by cases h with | dct h hA hS hl r => exact RepL.blw ds r
  | .cell n, _, h => by cases h with | cell h => exact decide_eq_true (List.getElem?_eq_some_iff.mp h).1
  | .scr ns, _, h => rfl
theorem RepL.blw : ∀ (ds : List D) {vs : List V}, RepL K C S A H vs ds → belowL A.length ds = true
  | [], _, _ => rfl
  | d :: ds, _, h => by
    cases h with
    | cons h r =>
      show (Z.below A.length d && belowL A.length ds) = true
      rw [Rep.blw d h, RepL.blw ds r]
      rfl
end
theorem zip_of : ∀ {ns : List Str} {xs : List (Str × V)}, xs.map (·.1) = ns → xs = ns.zip (xs.map (·.2))
  | [], [], _ => rfl
  | [], _ :: _, e => by simp at e
  | _ :: _, [], e => by simp at e
  | n :: ns, (m, x) :: xs, e => by
    obtain ⟨e1, e2⟩ := List.cons.inj e
    have e1 : m = n := e1
    subst e1
    rw [List.map_cons, List.zip_cons_cons, ← zip_of e2]
theorem zip_fst : ∀ {ns : List Str} {es : List D}, es.length = ns.length → (ns.zip es).map (·.1) = ns
  | [], [], _ => rfl
  | [], _ :: _, e => by simp at e
  | _ :: _, [], e => by simp at e
  | n :: ns, d :: es, e => by
    rw [List.zip_cons_cons, List.map_cons, zip_fst (by simpa using e)]
theorem zip_snd : ∀ {ns : List Str} {es : List D}, es.length = ns.length → (ns.zip es).map (·.2) = es
  | [], [], _ => rfl
  | [], _ :: _, e => by simp at e
  | _ :: _, [], e => by simp at e
  | n :: ns, d :: es, e => by
    rw [List.zip_cons_cons, List.map_cons, zip_snd (by simpa using e)]
/-- the last cell forgotten: an instance that stays as it is -/
theorem Cells.freeze {H0 : Hp} {c : Nat} {es : List D} (c1 : Cells K C S A H0 Δ) (hc : Cells K C S (A ++ [x]) H (Δ ++ [.ins c ((C.nms c).zip es)])) (hl : es.length = (C.nms c).length) (hb : belowL A.length es = true) : Cells K C S A H Δ ∧ Rep K C S A H (.ref x) (.ins c es) := by
  have lenΔ := c1.len
  refine ⟨⟨c1.len, c1.nd, c1.dj, hc.as, fun n a o h1 h2 => ?_⟩, ?_⟩
  · have hn : n < A.length := (List.getElem?_eq_some_iff.mp h1).1
    have q := hc.at_ n a o (by rw [List.getElem?_append_left hn]; exact h1) (by rw [List.getElem?_append_left (by rw [← lenΔ]; exact hn)]; exact h2)
    have q0 := c1.at_ n a o h1 h2
    cases o with
    | lst ds =>
      obtain ⟨xs, g1, g2⟩ := q
      obtain ⟨_, _, g3⟩ := q0
      exact ⟨xs, g1, RepL.drop_ ds (RepL.blw ds g3) g2⟩
    | ins c fs =>
      obtain ⟨dx, xs, g1, g2, g3⟩ := q
      obtain ⟨_, _, _, _, g4⟩ := q0
      exact ⟨dx, xs, g1, g2, RepL.drop_ _ (RepL.blw _ g4) g3⟩
    | dct ks ds =>
      obtain ⟨xs, g1, g2, g3⟩ := q
      obtain ⟨_, _, _, g4⟩ := q0
      exact ⟨xs, g1, g2, RepL.drop_ _ (RepL.blw _ g4) g3⟩
  · have q := hc.at_ A.length x (.ins c ((C.nms c).zip es)) (by rw [List.getElem?_append_right (Nat.le_refl _), Nat.sub_self] <;> rfl) (by rw [lenΔ, List.getElem?_append_right (Nat.le_refl _), Nat.sub_self] <;> rfl)
    obtain ⟨dx, xs, g1, g2, g3⟩ := q
    rw [zip_fst hl] at g2
    rw [zip_snd hl] at g3
    have hx : x ∉ A := fun h => by
      have := List.nodup_append.mp hc.nd
      exact this.2.2 x h x (by simp) rfl
    have hxS : x ∉ S := hc.dj x (by simp)
    rw [zip_of g2] at g1
    exact .ins g1 hx hxS (by rw [g3.length]; exact hl) (RepL.drop_ es hb g3)
end
/-- C(..), never changed again: what __init__ makes of a new cell, as data -/
def zMakeF (C : CI) (c : Nat) (W : ZRC) (dds : List D) (za : ZA) : ZE := fun Γ Δ P => za Γ Δ fun ds Δ1 => W (.cell Δ1.length :: (ds ++ dds)) (Δ1 ++ [.ins c []]) fun v Δ2 => v = .non ∧ ∃ es, Δ2 = Δ1 ++ [.ins c ((C.nms c).zip es)] ∧ es.length = (C.nms c).length ∧ belowL Δ1.length es = true ∧ P (.ins c es) Δ1
section
variable {C : CI} {X : Cx} {e : Expr} {es : List Expr} {za : ZA} {pos p : Pos} {x : Str} {k : Nat} {f : Addr} {fd : FuncData} {ps : List Str} {W : ZRC} {dvs : List V} {dds : List D} {ds : List Value}
theorem ref_make {K : PySem.W.Frag} {c : Nat} {ta : TA} {E : XK} (ha : RefA K C ta za) (hdd : ∀ S A H, RepL K C S A H dvs dds) : RefE K C (tMake (C.adr c) (SpZ K C W) dvs E ta) (zMakeF C c W dds za) := fun S A σ H Γ Δ P Q hs hc hz k =>
  ha S A σ H Γ Δ _ _ hs hc hz fun vs ds A1 H1 Δ1 e1 c1 r1 p x dx hx hdx hne => by
    have hx0 : upd H1 dx (.own x) x = none := by rw [upd_ne (Ne.symm hne)]; exact hx
    have e2 : Ext A1 H1 A1 (upd H1 dx (.own x)) := Ext.new hdx
    have e3 : Ext A1 (upd H1 dx (.own x)) (A1 ++ [x]) (upd (upd H1 dx (.own x)) x (.ins (C.adr c) dx [])) := Ext.newCell hx0
    have e23 := e2.trans e3
    refine ⟨S, A1 ++ [x], Δ1 ++ [.ins c []], .cell Δ1.length :: (ds ++ dds), _, .cons (.cell ?_) ((r1.ext e23).append (hdd _ _ _)), (c1.new hdx).newO (o := .ins c []) hx0 ⟨dx, [], upd_same, rfl, .nil⟩, p, fun v d A' H' Δ' e4 c4 r4 p4 => ?_⟩
    · rw [← c1.len, List.getElem?_append_right (Nat.le_refl _), Nat.sub_self] <;> rfl
    · obtain ⟨rfl, es, rfl, hl, hb, p4⟩ := p4
      cases r4
      refine ⟨rfl, ?_⟩
      have hA' : A' = A1 ++ [x] := by
        obtain ⟨B, hB, _⟩ := e4.pre
        have hlen := c4.len
        rw [hB, List.length_append, List.length_append, List.length_append, c1.len] at hlen
        have hB0 : B.length = 0 := by
          have h1 : ([x] : List Addr).length = 1 := rfl
          have h2 : ([O.ins c ((C.nms c).zip es)] : List O).length = 1 := rfl
          omega
        rw [List.length_eq_zero_iff.mp hB0, List.append_nil] at hB
        exact hB
      subst hA'
      obtain ⟨c5, r5⟩ := c1.freeze c4 hl (by rw [c1.len]; exact hb)
      have e14 := e23.trans e4
      refine k _ _ A1 H' Δ1 (e1.trans ⟨⟨[], by simp, by simp⟩, fun a o h1 h2 => e14.keep a o h1 h2, e14.trk⟩) c5 r5 p4
theorem ez_makeF {c : Nat} (M : Mk X.K (C.adr c) f) (F : FnOk X.prog X.w X.K X.mg X.base CX0 k f fd ps (SpZ X.K C W)) (hr : Room (k + 1) X.A) (hm : X.mg x = some (.ref (C.adr c))) (hb : Binds X.K fd ps ds) (hd : Vals dvs ds) (hdd : ∀ S A H, RepL X.K C S A H dvs dds)
    (ha : AZ C X (e :: es) za) (hg : Gl X x := by rfl) (hdb : (x == ("__debug__" : Str)) = false := by decide) (he : starEach (e :: es) X.env = (false, eval e X.env) :: starEach es X.env := by rfl) (hpl : (backTo pos (starEach es X.env)).any (·.1) = false := by rfl) :
    EZ C X (.Call (.Name x p) (e :: es) [] pos) (zMakeF C c W dds za) := by
  obtain ⟨t, a1, a2⟩ := ha.ex
  exact ⟨_, pe_make M F hr hg hm hb hd (E := E0) pass0 a1 hdb he hpl, ref_make a2 hdd⟩
end

/-! ### isinstance -/
def tyD (C : CI) (Δ : Store) : D → Option Value
  | .non => some (.type "NoneType")
  | .bl _ => some (.type "bool")
  | .int _ => some (.type "int")
  | .str _ => some (.type "str")
  | .tup _ => some (.type "tuple")
  | .lst _ => some (.type "list")
  | .ins c _ => some (.ref (C.adr c))
  | .cell n => match Δ[n]? with
    | some (.lst _) => some (.type "list")
    | some (.ins c _) => some (.ref (C.adr c))
    | _ => none
  | _ => none
def clsD (C : CI) : D → Option Value
  | .ty n => some (.type n)
  | .cls c => some (.ref (C.adr c))
  | _ => none
/-- what the written part says of a class whose instances are asked for their class -/
structure Isi (K : PySem.W.Frag) (Ca : Addr) : Prop where
  cl : Cls K Ca
  ha : PySem.W.findIn K (.ref Ca) "__class__" = some (some (.builtin "object.__class__"))
  hn : PySem.W.specialIn K (.builtin "object.__class__") "__get__" = some (some (.builtin "getset_descriptor.__get__"))
  htk : PySem.W.takesIn K (.builtin "object.__class__") = some true
  hm : PySem.W.mroIn K Ca (.type "object") = some true
def zIsi (K : PySem.W.Frag) (C : CI) : ZRC := fun ds Δ P => ∃ x y t u b, ds = [x, y] ∧ tyD C Δ x = some t ∧ clsD C y = some u ∧ (∀ Ca, t = .ref Ca → Isi K Ca) ∧ PySem.W.kitOne K t u = some b ∧ P (.bl b) Δ
section
variable {C : CI} {X : Cx}
theorem Rep.tyX {K : PySem.W.Frag} {S A : List Addr} {H : Hp} {Δ : Store} {v : V} {d : D} {t : Value} (hc : Cells K C S A H Δ) (r : Rep K C S A H v d) (h : tyD C Δ d = some t) (hI : ∀ Ca, t = .ref Ca → Isi K Ca) : TyX K H v t := by
  cases r with
  | non => cases h; exact .base .non
  | bl b => cases h; exact .base (.bl b)
  | int b => cases h; exact .base (.int b)
  | str b => cases h; exact .base (.str b)
  | tup h1 _ _ _ => cases h; exact .base (.tup h1)
  | lst h1 _ _ _ => cases h; exact .base (.lst h1)
  | ins h1 _ _ _ _ =>
    cases h
    have q := hI _ rfl
    exact .base (.ins h1 q.cl q.ha q.hn q.htk q.hm)
  | cell e =>
    rename_i a n
    unfold tyD at h
    cases q : Δ[n]? with
    | none => simp only [q] at h; cases h
    | some o =>
      cases o with
      | lst ds =>
        simp only [q] at h
        cases h
        obtain ⟨xs, h1, h2⟩ := hc.at_ n a _ e q
        exact .base (.lst h1)
      | ins c fs =>
        simp only [q] at h
        cases h
        obtain ⟨dx, xs, h1, h2⟩ := hc.at_ n a _ e q
        have q := hI _ rfl
        exact .base (.ins h1 q.cl q.ha q.hn q.htk q.hm)
      | dct _ _ => simp only [q] at h; cases h
  | ty n => exact nomatch h
  | scr _ => exact nomatch h
  | cls _ => exact nomatch h
  | dct _ _ _ _ _ => exact nomatch h
theorem Rep.clsV {K : PySem.W.Frag} {S A : List Addr} {H : Hp} {v : V} {d : D} {u : Value} (r : Rep K C S A H v d) (h : clsD C d = some u) : ClsV v u := by
  cases r with
  | ty n => cases h; exact .ty n
  | cls c => cases h; exact .own _
  | non => exact nomatch h
  | dct _ _ _ _ _ => exact nomatch h
  | bl b => exact nomatch h
  | int b => exact nomatch h
  | str b => exact nomatch h
  | tup _ _ _ _ => exact nomatch h
  | lst _ _ _ _ => exact nomatch h
  | ins _ _ _ _ _ => exact nomatch h
  | cell _ => exact nomatch h
  | scr _ => exact nomatch h
theorem cz_isi : CallZ C X (.builtin "isinstance") (zIsi X.K C) := ⟨_, call_isi, fun S A H Δ xs ds P Q hc r hz k => by
  obtain ⟨x, y, t, u, b, rfl, h1, h2, h3, h4, q⟩ := hz
  obtain ⟨v, v', rfl, rv, rv'⟩ := two_rep r
  exact ⟨v, v', t, u, b, rfl, rv'.clsV h2, rv.tyX hc h1 h3, h4, k _ _ A H Δ (Ext.refl _ _) hc (.bl _) q⟩⟩
theorem ez_cls {c : Nat} {x : Str} {pos : Pos} (hm : X.mg x = some (.ref (C.adr c))) (hg : Gl X x := by rfl) (hd : (x == ("__debug__" : Str)) = false := by decide) : EZ C X (.Name x pos) (zC (.cls c)) :=
  ⟨_, pe_glob (v := .ref (C.adr c)) hg hm rfl hd, ref_c fun _ _ _ => .cls c⟩
end
end Z

/-! Z6: defs that are entered with no guard around (repr asks it), repr of data, the law's call. -/
namespace Z
open PySem PySem.Spec PyProof.Rows L2

/-- a promise that is kept where no repr is under way -/
structure FnG (P : Program) (w : World) (K : PySem.W.Frag) (mg : Str → Option Value) (base : Heap) (k : Nat) (f : Addr) (fd : FuncData) (ps : List Str) (sp : Sp) : Prop where
  arity : ∀ ws hp q x, sp ws hp q x → ws.length = ps.length
  go : ∀ (B : Around) (fr : List PySem.Env) (st : Shared) (hp : Hp) (ar : Args) (us : List Value) (ws : List V) (q : VK) (x : XK), B.guards = some [] → Room k B → Env0 P w K mg base B fr st hp → BindsTo st fd ar (ps.zip us) → Vals ws us → sp ws hp q x →
    codeAny (model P w) B (.call (.ref f) ar) (CR CX0 fr P w hp st q x) st
section
variable {P : Program} {w : World} {K : PySem.W.Frag} {mg : Str → Option Value} {base : Heap} {k : Nat} {f : Addr} {fd : FuncData} {ps : List Str} {sp : Sp}
theorem fng_of (F : FnOk P w K mg base CX0 k f fd ps sp) : FnG P w K mg base k f fd ps sp := ⟨F.len, fun B fr st hp ar us ws q x _ => F.run B fr st hp ar us ws q x⟩
/-- a def's body, entered with no guard around -/
theorem fng_ok {y qual : Str} {sm : Stmt} {N : List Str} {W : ZRC} {C : CI} (F : Fun K y qual sm f fd) (Sc : FnScope N ps (defScope sm)) (len : ∀ ds Δ P, W ds Δ P → ds.length = ps.length)
    (body : ∀ (cdv : Value) (B : Around) (fr : List PySem.Env) (st : Shared) (hp : Hp) (x : XK), (cxOf CX0 P w K mg base N qual (defScope sm) f cdv B fr st hp x).nox.A.guards = some [] → Room k (B.deeper (PyProof.Rows.envOfC qual (defScope sm) st.heap.objs.size f cdv)) →
      ∃ z : ZS, SZs C (cxOf CX0 P w K mg base N qual (defScope sm) f cdv B fr st hp x).nox (defBody sm) z ∧ ∀ ds Δ P, W ds Δ P → z { nx := fun _ Δ' => P .non Δ', rt := P } (startZ N ds) Δ) : FnG P w K mg base (k + 1) f fd ps (SpZ K C W) := by
  have lenV : ∀ ws hp q x, SpZ K C W ws hp q x → ws.length = ps.length := fun ws hp q x h => by
    obtain ⟨S, A, Δ, ds, P, r, _, hw, _⟩ := h
    rw [r.length]
    exact len ds Δ P hw
  obtain ⟨oc, od, kV, doc, pm, an, cdv, ct, osl, rfl, lk, hcd⟩ := F.ex
  refine ⟨lenV, fun B fr st hp ar us ws q x hg hr e0 hb r hsp => ?_⟩
  have there := fun b o e => (e0.bs b o e).1
  have KX := e0.mod.kin.keeps there
  have locals_ : ∀ z ∈ ps.zip us, (defScope sm).names.lookup z.1 = some .local ∨ ((defScope sm).names.lookup z.1 = some .cell ∧ ((cellsFrom (st.heap.objs.size + 1) (defScope sm).names []).lookup z.1).isSome = true) := fun z hz => by
    obtain ⟨n, v⟩ := z
    exact (Sc.par n (List.of_mem_zip hz).1).elim Or.inl fun c => .inr ⟨c, PySem.W.cellsFrom_some _ _ _ (.inl c)⟩
  refine codeAny_call_function hr.depth (KX _ _ lk) rfl Sc.co Sc.gen rfl (PySem.W.codeRec_of KX hcd) (hb _ _ _ _ ?_)
  refine wpAny_newFunctionEnv_cells Sc.kind locals_ fun nv enr s1 inC => ?_
  subst enr
  refine ⟨(e0.mod.nolimit.keeps there).keeps inC.toInCall.keep, codeAny_func ?_⟩
  obtain ⟨z, hz, hzz⟩ := body cdv B fr st hp x hg (hr.deeper _)
  obtain ⟨ts, h1, h2⟩ := hz.ex
  obtain ⟨S, A', Δ, ds, P', rl, hc, hw, kk⟩ := hsp
  have I : Inv (cxOf CX0 P w K mg base N qual (defScope sm) f cdv B fr st hp x) [] (L2.start N ws) hp s1 := inv_start Sc hr.hd e0 (lenV ws hp q x ⟨S, A', Δ, ds, P', rl, hc, hw, kk⟩) r inC
  have rd : ts { nx := fun _ H' => q .non H', rt := q } (L2.start N ws) hp := h2 S A' _ hp (startZ N ds) Δ { nx := fun _ Δ' => P' .non Δ', rt := P' } _ (slots_start rl) hc (hzz ds Δ P' hw)
    ⟨fun σ' A2 H2 Γ2 Δ2 e2 s2 c2 y => kk .non .non A2 H2 Δ2 e2 c2 .non y, fun σ' A2 H2 Γ2 Δ2 e2 s2 c2 y => y.elim, fun σ' A2 H2 Γ2 Δ2 e2 s2 c2 y => y.elim, fun v d A2 H2 Δ2 e2 c2 r2 y => kk v d A2 H2 Δ2 e2 c2 r2 y⟩
  refine wpAny_mono (h1.nox.run [] s1 _ hp _ I rd) (fun fl s' hs => ?_) fun _ _ y => y
  cases fl with
  | ret u =>
    obtain ⟨v, σ', H', J, rv, y⟩ := hs
    exact ⟨v, H', J.os, J.bare, J.base, J.hok, rv, y⟩
  | next =>
    obtain ⟨σ', H', J, y⟩ := hs
    exact ⟨V.non, H', J.os, J.bare, J.base, J.hok, rfl, y⟩
  | brk =>
    obtain ⟨_, _, _, y⟩ := hs
    exact False.elim y
  | cont =>
    obtain ⟨_, _, _, y⟩ := hs
    exact False.elim y
end
section
variable {C : CI} {X : Cx} {e : Expr} {es : List Expr} {za : ZA} {pos p : Pos} {x : Str} {k : Nat} {f : Addr} {fd : FuncData} {ps : List Str} {W : ZRC}
theorem ez_callG (F : FnG X.prog X.w X.K X.mg X.base k f fd ps (SpZ X.K C W)) (gd : X.A.guards = some []) (hr : Room k X.A) (hm : X.mg x = some (.ref f)) (hk : PySem.W.keepIn X.K (.ref f) = true) (hb : Binds X.K fd ps [])
    (ha : AZ C X (e :: es) za) (hg : Gl X x := by rfl) (hdb : (x == ("__debug__" : Str)) = false := by decide) (he : starEach (e :: es) X.env = (false, eval e X.env) :: starEach es X.env := by rfl) (hpl : (backTo pos (starEach es X.env)).any (·.1) = false := by rfl) :
    EZ C X (.Call (.Name x p) (e :: es) [] pos) (zCall W [] za) := by
  obtain ⟨t, a1, a2⟩ := ha.ex
  refine ⟨tCall (SpZ X.K C W) [] E0 t, ⟨fun pins s σ H Q I h => ?_⟩, ref_call a2 fun _ _ _ => .nil⟩
  refine wpAny_Call_Name_kw (ld_glob I hg hm ?_ hdb)
  refine PySem.W.callWith_K (h₀ := X.base) I.ok.mod.kin hk (thn (a1.run pos pins s σ H _ I h) fun us s1 got => ?_) he hpl
  obtain ⟨vs, H1, I1, r, q⟩ := got
  rw [List.append_nil] at q
  refine ⟨I1.kIn, ?_⟩
  have hl : us.length = ps.length := by rw [← r.length]; exact F.arity _ _ _ _ q
  have bd : BindsTo s1 fd ⟨us, []⟩ (ps.zip us) := by
    have b := hb s1 us I1.kIn (by rw [List.append_nil]; exact hl)
    rw [List.append_nil] at b
    exact b
  refine wpAny_call (codeAny_mono (F.go X.A X.stack s1 H1 ⟨us, []⟩ us vs Q E0 gd hr I1.env0 bd r q) fun res s' hq => ?_)
  match res, hq with
  | .error e, hq => exact hq.elim
  | .ok (.ret u), hq => exact I1.after hq
  | .ok .next, hq => exact False.elim hq
  | .ok .brk, hq => exact False.elim hq
  | .ok .cont, hq => exact False.elim hq

/-! ### repr -/
mutual
theorem noDict_pd : ∀ d : D, plainD d = true → (pd d).hasDict = false
  | .non, _ => rfl
  | .bl _, _ => rfl
  | .int _, _ => rfl
  | .str _, _ => rfl
  | .tup ds, h => by show PyData.hasDictAll (pds ds) = false; exact noDict_pds ds h
  | .lst ds, h => by show PyData.hasDictAll (pds ds) = false; exact noDict_pds ds h
  | .ty _, h => by cases h
  | .ins _ _, h => by cases h
  | .cell _, h => by cases h
  | .scr _, h => by cases h
  | .cls _, h => by cases h
  | .dct _ _, h => by cases h
theorem noDict_pds : ∀ ds : List D, plainDs ds = true → PyData.hasDictAll (pds ds) = false
  | [], _ => rfl
  | d :: ds, h => by
    have h' : (plainD d && plainDs ds) = true := h
    rw [Bool.and_eq_true] at h'
    show ((pd d).hasDict || PyData.hasDictAll (pds ds)) = false
    rw [noDict_pd d h'.1, noDict_pds ds h'.2]
    rfl
end
/-- what repr can show -/
structure Showable (d : D) : Prop where
  pl : plainD d = true
  sh : (pd d).showable = true
  dp : (pd d).depth ≤ 60
  sz : (pd d).shown.length ≤ sizeLine
def zRepr : ZRC := fun ds Δ P => ∃ d, ds = [d] ∧ Showable (rd Δ d) ∧ P (.str (pd (rd Δ d)).shown) Δ
theorem cr_repr (gd : X.A.guards = some []) (hu : X.A.units + 64 < cLine) : CallR X (.builtin "repr") (fun xs H Q => ∃ x d, xs = [x] ∧ Dp X.K H x (pd d) ∧ Showable d ∧ Q (.str (pd d).shown) H) := by
  intro pins s σ H xs us Q I r h
  obtain ⟨x, d, rfl, hd, sh, q⟩ := h
  obtain ⟨u, rfl, ru⟩ := vals1 r
  have nd := noDict_pd d sh.pl
  obtain ⟨_, hs, hdp, hsz⟩ := sh
  generalize pd d = e at *
  have dspl : ∀ a, x = .ref a → wpAny (model X.prog X.w) X.A (call (.builtin "repr") [u]) (EP X pins σ Q) X.xe s := fun a hx => by
    subst hx
    obtain rfl : u = Value.ref a := ru
    obtain ⟨as, rr⟩ := Dp.reads I e (.ref a) (.ref a) hd rfl
    exact PySem.repr_of_reads' rr hs (PyData.noDict_hsm nd) gd (by omega) (fun _ _ e => e) (fun h' u tk hk => ⟨.str _, H, I.kept (t' := tk) hk, ⟨u, rfl⟩, q⟩) hsz
  cases hd with
  | non => obtain rfl : u = Value.none := ru; exact PySem.P.repr_of_none ⟨.str _, H, I.tok _, ⟨_, rfl⟩, q⟩
  | bl b => obtain rfl : u = Value.bool b := ru; exact PySem.P.repr_of_bool ⟨.str _, H, I.tok _, ⟨_, rfl⟩, q⟩
  | int i => obtain ⟨t, rfl⟩ := ru; exact PySem.P.repr_of_int (of_decide_eq_true hs) ⟨.str _, H, I.tok _, ⟨_, rfl⟩, q⟩
  | str z => obtain ⟨t, rfl⟩ := ru; exact PySem.P.repr_of_str ⟨.str _, H, I.tok _, ⟨_, rfl⟩, q⟩ hsz
  | lst h1 h2 => exact dspl _ rfl
  | tup h1 h2 => exact dspl _ rfl
theorem cz_repr (gd : X.A.guards = some []) (hu : X.A.units + 64 < cLine) : CallZ C X (.builtin "repr") zRepr := ⟨_, cr_repr gd hu, fun S A H Δ xs ds P Q hc r hz k => by
  obtain ⟨d, rfl, sh, q⟩ := hz
  obtain ⟨v, rfl, rv⟩ := one_rep r
  exact ⟨v, rd Δ d, rfl, dp_rd hc rv sh.pl, sh, k _ _ A H Δ (Ext.refl _ _) hc (.str _) q⟩⟩
end

/-! ### the law is called -/
section
variable {P : Program} {w : World} {K : PySem.W.Frag} {mg mb : Str → Option Value} {k : Nat} {fa a : Addr} {fd : FuncData} {x : Str} {s₁ : Shared} {vs : List Value} {ns : List Int} {C : CI} {W : ZRC}
theorem law_callG (KX : K.In s₁.heap) (hns : s₁.heap.Ns mainGlobals mg) (hb : s₁.heap.Ns builtinsNs mb) (hbb : ∀ x : Str, x ≠ "__name__" → mb x = bootBuiltins x) (hlim : s₁.heap.NoLimit) (hg : s₁.gens = #[])
    (ha : s₁.heap.get? a = some { cls := .type "list", data := .seq vs.toArray }) (hi : IntsAre vs ns) (hl : ns.length ≤ sizeLine) (hr : Room k callerA)
    (F : ∀ base : Heap, K.In base → base.Ns mainGlobals mg → FnG P w K mg base k fa fd [x] (SpZ K C W)) (hbind : ∀ (s : Shared) (u : Value), BindsTo s fd ⟨[u], []⟩ [(x, u)])
    (hW : W [.scr ns] [] fun d _ => d = .bl true) :
    codeAny (model P w) callerA (.call (.ref fa) ⟨[.ref a], []⟩) (fun r s' => r = .ok (.ret (.bool true)) ∧ OldK s₁.heap s'.heap ∧ s'.os = s₁.os ∧ AllBare s'.gens) s₁ := by
  have rv := vals_ints hi
  have lenV := hi.length
  have main : ∀ H : Hp, Only H → Rep K C [] [] H (.ref a) (.scr ns) → HOk P w H s₁.heap → (∀ b, H b ≠ none → b = a) → (H a ≠ none → K.lookup a = none) →
      codeAny (model P w) callerA (.call (.ref fa) ⟨[.ref a], []⟩) (fun r s' => r = .ok (.ret (.bool true)) ∧ OldK s₁.heap s'.heap ∧ s'.os = s₁.os ∧ AllBare s'.gens) s₁ := by
    intro H hO hS hok hA hK
    have free_of : ∀ {b : Addr} {o : Obj}, s₁.heap.get? b = some o → (b = a → False) → H b = none := fun {b o} e n => by
      cases q : H b with
      | none => rfl
      | some u => exact (n (hA b (by rw [q]; simp))).elim
    have dicts : ∀ {b : Addr} {m : Str → Option Value}, s₁.heap.Ns b m → (hidT s₁.heap H).Ns b m := fun {b m} hNs => by
      obtain ⟨o, es, ep, e, d, r⟩ := hNs
      refine ⟨o, es, ep, hidT_get e (free_of e fun q => ?_), d, r⟩
      subst q
      rw [ha] at e
      cases e
      exact nomatch (show Data.seq vs.toArray _ = Data.dict es ep from d)
    have hKb : K.In (hidT s₁.heap H) := fun b o e => hidT_get (KX b o e) (by
      cases q : H b with
      | none => rfl
      | some u =>
        have e' := hA b (by rw [q]; simp)
        subst e'
        rw [hK (by rw [q]; simp)] at e
        exact nomatch e)
    have hM : Mod K mg (hidT s₁.heap H) := by
      obtain ⟨mc, h1, h2⟩ := hlim
      exact ⟨hKb, dicts hns, ⟨mb, dicts hb, hbb⟩, ⟨mc, dicts h1, h2⟩⟩
    have e0 : Env0 P w K mg (hidT s₁.heap H) callerA [] s₁ H := ⟨rfl, hM, fun b o e => of_hidT e, Nat.le_of_eq (hidT_size _ _), trivial, fun b hb => (nomatch (show b ∈ ([] : List Addr) from hb)), hok, AllBare.of_eq hg⟩
    have cells : Cells K C [] [] H [] := ⟨rfl, List.nodup_nil, fun b hb => (nomatch hb), fun b hb => (nomatch hb), fun n b o h _ => by simp at h⟩
    have sp : SpZ K C W [.ref a] H (fun v _ => v = .bl true) (fun _ _ _ => False) := ⟨[], [], [], [.scr ns], _, .cons hS .nil, cells, hW, fun v d A' H' Δ' _ _ r q => by
      subst q
      cases r
      rfl⟩
    refine codeAny_mono ((F _ hKb (dicts hns)).go callerA [] s₁ H ⟨[.ref a], []⟩ [.ref a] [.ref a] _ _ rfl hr e0 (hbind s₁ (.ref a)) (.cons rfl .nil) sp) fun r s' h => ?_
    match r, h with
    | .error e, h => exact h.elim
    | .ok .next, h => exact False.elim h
    | .ok .brk, h => exact False.elim h
    | .ok .cont, h => exact False.elim h
    | .ok (.ret u), h =>
      obtain ⟨v, H', os, bare, un, hok', r', q⟩ := h
      have q' : v = .bl true := q
      subst q'
      obtain rfl : u = Value.bool true := r'
      refine ⟨rfl, OldK.of_keep fun b o e => ?_, os, bare⟩
      rcases hO b with z | ⟨ob, xs, z⟩
      · exact un.keep b o e z (fun y => (nomatch (show b ∈ ([] : List Addr) from y))) (by simp)
      · obtain ⟨e1, _⟩ := hok b _ z
        obtain ⟨e2, _⟩ := hok' b _ (un.frzs b ob _ z)
        rw [e] at e1
        cases e1
        exact e2
  cases hk : K.lookup a with
  | some o =>
    have e := KX a o hk
    rw [ha] at e
    cases e
    exact main (fun _ => none) (fun _ => .inl rfl) (.scr (.inr ⟨_, vs.toArray, _, hk, rfl, rfl, rfl, by rw [List.size_toArray, lenV]; exact hl, by simpa using rv⟩)) (fun b u z => (nomatch (show (none : Option HO) = some u from z))) (fun b z => absurd rfl z) fun z => absurd rfl z
  | none =>
    have at_a : (fun b => if b = a then some (HO.frz { cls := .type "list", data := .seq vs.toArray } (.lst (ns.map V.int))) else none : Hp) a = some (.frz { cls := .type "list", data := .seq vs.toArray } (.lst (ns.map V.int))) := if_pos rfl
    refine main (fun b => if b = a then some (HO.frz { cls := .type "list", data := .seq vs.toArray } (.lst (ns.map V.int))) else none) (fun b => ?_) (.scr (.inl ⟨⟨_, at_a⟩, by simp, by simp⟩)) (fun b u z => ?_) (fun b z => ?_) fun _ => hk
    · by_cases h : b = a
      · subst h; exact .inr ⟨_, _, at_a⟩
      · exact .inl (if_neg h)
    · by_cases h : b = a
      · subst h
        have z' := at_a.symm.trans z
        cases z'
        exact ⟨ha, by rw [List.length_map]; exact hl, vs, _, rv, ha⟩
      · exact nomatch (if_neg h).symm.trans z
    · by_cases h : b = a
      · exact h
      · exact absurd (if_neg h) z
end
theorem walkG {l : PySem.W.OpenLaw} {n k : Nat} {q : Program} {loose : List Str} {XP : (Str → Option Value) → Heap → Prop} {YP : World → Heap → Prop} {d : DefRec} {K : Params → PySem.W.Frag} {x : Str} {W : ZRC}
    (hn : l.most = some n) (hn2 : n ≤ sizeLine) (hdf : d.params.defaults = []) (hr : Room k callerA) (hY : ∀ (w : World) (h : Heap), YP w h → (K w.params).In h)
    (F : ∀ (w : World) (mg : Str → Option Value) (fa : Addr) (h : Heap), (K w.params).In h → h.Ns mainGlobals mg → mg d.name = some (.ref fa) →
      ∃ (fd : FuncData) (C : CI), (∀ (s : Shared) (u : Value), BindsTo s fd ⟨[u], []⟩ [(x, u)]) ∧ ∀ base : Heap, (K w.params).In base → base.Ns mainGlobals mg → FnG l.prog w (K w.params) mg base k fa fd [x] (SpZ (K w.params) C W))
    (hW : ∀ ns : List Int, ns.length ≤ n → W [.scr ns] [] fun d _ => d = .bl true) : PySem.W.WalkO q loose XP YP l.row.toRowW d [] (fun f vs => PySem.call f vs) := by
  refine Att.attach_call hn hdf fun w s₀ s₁ mg mb fa o pm cd doc a vs ns G Y ho hd hcd hmg hobj hints hlen hg => ?_
  obtain ⟨fd, C, hb, hF⟩ := F w mg fa _ (hY w _ Y) G.T.g hmg
  exact law_callG (hY w _ Y) G.T.g G.T.b G.T.builtins G.T.nolimit hg hobj hints (Nat.le_trans hlen hn2) hr hF hb (hW ns hlen)
end Z

/-! Z7: blocks of comprehensions, products of ints and of lists, == of own classes, more. -/
namespace Z
open PySem PySem.Spec PyProof.Rows L2

/-- the reading that a reading over data stands for -/
def up (K : PySem.W.Frag) (C : CI) (z : ZE) : TE := fun σ H Q => ∃ S A Γ Δ P, Slots K C S A H σ Γ ∧ Cells K C S A H Δ ∧ z Γ Δ P ∧ ∀ v d A' H' Δ', Ext A H A' H' → Cells K C S A' H' Δ' → Rep K C S A' H' v d → P d Δ' → Q v H'
def upT (K : PySem.W.Frag) (C : CI) (z : ZT) : TT := fun σ H Q => ∃ S A Γ Δ P, Slots K C S A H σ Γ ∧ Cells K C S A H Δ ∧ z Γ Δ P ∧ ∀ b A' H' Δ', Ext A H A' H' → Cells K C S A' H' Δ' → P b Δ' → Q b H'
theorem ref_up {K : PySem.W.Frag} {C : CI} {z : ZE} : RefE K C (up K C z) z := fun S A σ H Γ Δ P Q hs hc hz k => ⟨S, A, Γ, Δ, P, hs, hc, hz, k⟩
theorem ref_upT {K : PySem.W.Frag} {C : CI} {z : ZT} : RefT K C (upT K C z) z := fun S A σ H Γ Δ P Q hs hc hz k => ⟨S, A, Γ, Δ, P, hs, hc, hz, k⟩
theorem EZ.up {C : CI} {X : Cx} {e : Expr} {z : ZE} (h : EZ C X e z) : PE X e (Z.up X.K C z) := by
  obtain ⟨t, h1, h2⟩ := h.ex
  refine ⟨fun pins s σ H Q I q => h1.run pins s σ H Q I ?_⟩
  obtain ⟨S, A, Γ, Δ, P, hs, hc, hz, k⟩ := q
  exact h2 S A σ H Γ Δ P Q hs hc hz k
theorem TsZ.up {C : CI} {X : Cx} {es : List Expr} {z : ZT} (h : TsZ C X es z) : PTs X es (upT X.K C z) := by
  obtain ⟨t, h1, h2⟩ := h.ex
  refine ⟨fun pins s σ H Q I q => h1.run pins s σ H Q I ?_⟩
  obtain ⟨S, A, Γ, Δ, P, hs, hc, hz, k⟩ := q
  exact h2 S A σ H Γ Δ P Q hs hc hz k
theorem ref_gName {K : PySem.W.Frag} {C : CI} {i : Nat} : RefG K C (gName i) (zgName i) := fun S A σ H Γ Δ v d P Q hs hc r hz k => k _ A H _ Δ (Ext.refl _ _) (hs.set i r) hc hz
theorem ref_gNil {K : PySem.W.Frag} {C : CI} : RefGs K C gNil zgNil := fun S A σ H Γ Δ vs ds P Q hs hc r hz k => by
  obtain ⟨rfl, p⟩ := hz
  cases r
  exact ⟨rfl, k _ A H _ Δ (Ext.refl _ _) hs hc p⟩
theorem ref_gCons {K : PySem.W.Frag} {C : CI} {g : TG} {gs : TGs} {z : ZG} {zs : ZGs} (h : RefG K C g z) (hr : RefGs K C gs zs) : RefGs K C (gCons g gs) (zgCons z zs) := fun S A σ H Γ Δ vs ds P Q hs hc r hz k => by
  obtain ⟨d, rest, rfl, p⟩ := hz
  cases r with
  | cons r1 r2 => exact ⟨_, _, rfl, h S A σ H Γ Δ _ d _ _ hs hc r1 p fun σ' A' H' Γ' Δ' e1 s1 c1 p1 => hr S A' σ' H' Γ' Δ' _ rest P Q s1 c1 (r2.ext e1) p1 (k.ext e1)⟩
theorem ref_gTup {K : PySem.W.Frag} {C : CI} {gs : TGs} {zs : ZGs} {n : Nat} (h : RefGs K C gs zs) : RefG K C (gTup K n gs) (zgTup n zs) := fun S A σ H Γ Δ v d P Q hs hc r hz k => by
  obtain ⟨ds, rfl, hl, p⟩ := hz
  cases r with
  | tup h1 h2 h3 r => exact ⟨_, _, rfl, SqT.of h1, by rw [r.length]; exact hl, h S A σ H Γ Δ _ ds P Q hs hc r p k⟩
section
variable {C : CI} {X : Cx}
theorem blkz {scope : Scope} {tg : Expr} {ifs : List Expr} {elt : Expr} {g : TG} {zg : ZG} {zt : ZT} {ze : ZE} (hr : RefG X.K C g zg)
    (hg : ∀ (s : Shared) (H : Hp) (Ca : Addr) (cl : List (Str × Addr)) (fp : List Addr), PG (X.blk s H scope (compEnvC scope cl Ca X.env) fp) tg g)
    (ht : ∀ (s : Shared) (H : Hp) (Ca : Addr) (cl : List (Str × Addr)) (fp : List Addr), TsZ C (X.blk s H scope (compEnvC scope cl Ca X.env) fp) ifs zt)
    (he : ∀ (s : Shared) (H : Hp) (Ca : Addr) (cl : List (Str × Addr)) (fp : List Addr), EZ C (X.blk s H scope (compEnvC scope cl Ca X.env) fp) elt ze) : BlkZ C X scope tg ifs elt g zg zt ze :=
  ⟨upT X.K C zt, up X.K C ze, fun s H Ca cl fp => ⟨hg s H Ca cl fp, (ht s H Ca cl fp).up, (he s H Ca cl fp).up⟩, hr, ref_upT, ref_up⟩

/-! ### products -/
def zMulA : ZR2 := fun x y Δ P => (∃ i j, x = .int i ∧ y = .int j ∧ MulOk i j ∧ P (.int (i * j)) Δ) ∨ zRepeat x y Δ P
theorem oz_mulA : OpZ C X (binaryOp .Mult) zMulA := by
  obtain ⟨r, h1, h2⟩ := (oz_mul (C := C) (X := X)).ex
  obtain ⟨r', h1', h2'⟩ := (oz_rep (C := C) (X := X)).ex
  refine ⟨_, OpR.or h1 h1', fun S A H Δ x y dx dy P Q hc rx ry hz k => ?_⟩
  rcases hz with ⟨i, j, q1, q2, q3, q4⟩ | hz
  · exact .inl (h2 S A H Δ x y dx dy P Q hc rx ry ⟨i, j, q1, q2, q3, q4⟩ k)
  · exact .inr (h2' S A H Δ x y dx dy P Q hc rx ry hz k)
/-- xs[::-1] -/
def zRev (z : ZE) : ZE := fun Γ Δ P => z Γ Δ fun x Δ1 => ∃ ds, lstD Δ1 x = some ds ∧ P (.lst ds.reverse) Δ1
theorem ez_rev {e : Expr} {z : ZE} {p1 p2 p3 pos : Pos} (h : EZ C X e z) {k : Nat} : EZ C X (.Subscript e (.Slice none none (some (.UnaryOp .USub (.Constant (.int 1) k p1) p2)) p3) pos) (zRev z) := by
  obtain ⟨t, h1, h2⟩ := h.ex
  refine ⟨_, pe_revL h1, fun S A σ H Γ Δ P Q hs hc hz k => h2 S A σ H Γ Δ _ _ hs hc hz fun v d A1 H1 Δ1 e1 c1 r1 p => ?_⟩
  obtain ⟨ds, hd, p⟩ := p
  obtain ⟨a, xs, rfl, g1, g2⟩ := Rep.lst_ c1 r1 hd
  refine ⟨a, xs, rfl, SqL.of g1, fun q hq => ?_⟩
  exact k _ _ A1 _ Δ1 (e1.trans (Ext.new hq)) (c1.new hq) (.lst upd_same (c1.fresh hq) (c1.aside hq) (g2.reverse.ext (Ext.new hq))) p
/-- a list or a tuple is walked -/
def ziOr (a b : ZI) : ZI := fun Γ Δ P => a Γ Δ P ∨ b Γ Δ P
theorem iz_or {tg iter : Expr} {a b : ZI} (ha : IZ C X tg iter a) (hb : IZ C X tg iter b) : IZ C X tg iter (ziOr a b) := by
  obtain ⟨t, h1, h2⟩ := ha.ex
  obtain ⟨u, g1, g2⟩ := hb.ex
  refine ⟨fun σ H R => t σ H R ∨ u σ H R, ⟨fun pins s σ H R I h => h.elim (h1.run pins s σ H R I) (g1.run pins s σ H R I)⟩, fun S A σ H Γ Δ P R hs hc hz k => ?_⟩
  rcases hz with hz | hz
  · exact .inl (h2 S A σ H Γ Δ P R hs hc hz k)
  · exact .inr (g2 S A σ H Γ Δ P R hs hc hz k)
theorem iz_seq {tg iter : Expr} {z : ZE} (h : EZ C X iter z) : IZ C X tg iter (ziOr (ziList z) (ziTup z)) := iz_or (iz_list h) (iz_tup h)

/-! ### an own == -/
def plainTys : List String := ["NoneType", "bool", "int", "str", "tuple", "list"]
/-- what the class has that its own == is asked first -/
structure EqO (K : PySem.W.Frag) (Ca f : Addr) : Prop where
  at_ : PySem.W.findIn K (.ref Ca) "__eq__" = some (some (.ref f))
  fn : PySem.W.isFn K (.ref f) = true
  first : ∀ n ∈ plainTys, PySem.W.notFirst K Ca (.type n) = true
  isi : Isi K Ca
def zEqO (C : CI) (c : Nat) (W : ZRC) : ZR2 := fun x y Δ P => insD Δ c x ∧ (∃ t, tyD C Δ y = some t ∧ (t = .ref (C.adr c) ∨ ∃ n, n ∈ plainTys ∧ t = .type n)) ∧ W [x, y] Δ fun d Δ' => ∃ b, d = .bl b ∧ P (.bl b) Δ'
theorem oz_eqO {c k : Nat} {f : Addr} {fd : FuncData} {ps : List Str} {W : ZRC} (F : FnOk X.prog X.w X.K X.mg X.base CX0 k f fd ps (SpZ X.K C W)) (hr : Room k X.A) (E : EqO X.K (C.adr c) f) (hb : Binds X.K fd ps []) : OpZ C X (compareOp .Eq) (zEqO C c W) := by
  refine ⟨fun x y H Q => ∃ a dx fs t, x = .ref a ∧ H a = some (.ins (C.adr c) dx fs) ∧ TyX X.K H y t ∧ (t = .ref (C.adr c) ∨ ∃ n, n ∈ plainTys ∧ t = .type n) ∧ SpZ X.K C W [x, y] H (fun v H' => ∃ b, v = .bl b ∧ Q (.bl b) H') E0, ?_, ?_⟩
  · intro pins s σ H x y v u Q I rx ry h
    obtain ⟨a, dx, fs, t, rfl, ha, ty, ht, sp⟩ := h
    obtain rfl : v = Value.ref a := rx
    obtain ⟨mA, J, _⟩ := ins_get I.hok ha
    obtain ⟨od, J, _⟩ := J.look
    obtain ⟨P, kx, hp, _⟩ := kit_of I ry ty
    obtain ⟨m, hF⟩ := I.fr
    have hn : PySem.W.notFirst X.K (C.adr c) t = true := by
      rcases ht with rfl | ⟨n, hn, rfl⟩
      · simp [PySem.W.notFirst]
      · exact E.first n hn
    show wpAny _ _ (richCompare .Eq (.ref a) u) _ _ _
    refine PySem.W.cmp_K (op := .Eq) (tb := t) hr.units0 hF I.ok.mod.kin J (kx.ty _ _ I.kIn hp) hn E.at_ E.fn ?_
    have hl := F.len _ _ _ _ sp
    have r2 : Vals [V.ref a, y] [Value.ref a, u] := .cons rfl (.cons ry .nil)
    refine wpAny_call (codeAny_mono (F.run X.A X.stack s H ⟨[.ref a, u], []⟩ [.ref a, u] [.ref a, y] _ _ hr I.env0 (by
      have b := hb s [.ref a, u] I.kIn (by rw [List.append_nil]; exact hl)
      rw [List.append_nil] at b
      exact b) r2 sp) fun r s' hq => ?_)
    match r, hq with
    | .error e, hq => exact hq.elim
    | .ok .next, hq => exact False.elim hq
    | .ok .brk, hq => exact False.elim hq
    | .ok .cont, hq => exact False.elim hq
    | .ok (.ret w), hq =>
      obtain ⟨z, H', I', rz, b, ez, q⟩ := I.after hq
      subst ez
      cases rz
      exact ⟨.bl b, H', I', rfl, q⟩
  · intro S A H Δ x y dx dy P Q hc rx ry hz k
    obtain ⟨hi, ⟨t, ht, ht2⟩, w⟩ := hz
    obtain ⟨a, dx, fs, rfl, g1⟩ := rx.inst hc hi
    refine ⟨a, dx, fs, t, rfl, g1, ry.tyX hc ht fun Ca e => ?_, ht2, S, A, Δ, _, _, .cons rx (.cons ry .nil), hc, w, fun v d A' H' Δ' e2 c2 r2 p2 => ?_⟩
    · rcases ht2 with h | ⟨n, _, h⟩
      · rw [h] at e; cases e; exact E.isi
      · rw [h] at e; cases e
    · obtain ⟨b, rfl, p2⟩ := p2
      cases r2
      exact ⟨b, rfl, k _ _ A' H' Δ' e2 c2 (.bl b) p2⟩
def zEqA (C : CI) (c : Nat) (W : ZRC) : ZR2 := fun x y Δ P => zEq x y Δ P ∨ zEqO C c W x y Δ P
theorem oz_eqA {c k : Nat} {f : Addr} {fd : FuncData} {ps : List Str} {W : ZRC} (F : FnOk X.prog X.w X.K X.mg X.base CX0 k f fd ps (SpZ X.K C W)) (hr : Room k X.A) (E : EqO X.K (C.adr c) f) (hb : Binds X.K fd ps []) : OpZ C X (compareOp .Eq) (zEqA C c W) := by
  obtain ⟨r, h1, h2⟩ := (oz_eq (C := C) (X := X) hr.units).ex
  obtain ⟨r', h1', h2'⟩ := (oz_eqO (C := C) (X := X) F hr E hb).ex
  refine ⟨_, OpR.or h1 h1', fun S A H Δ x y dx dy P Q hc rx ry hz k => ?_⟩
  rcases hz with hz | hz
  · exact .inl (h2 S A H Δ x y dx dy P Q hc rx ry hz k)
  · exact .inr (h2' S A H Δ x y dx dy P Q hc rx ry hz k)
end
end Z

/-! Z8: defs with defaults, results that are cells, cells that are frozen, the law's end. -/
namespace Z
open PySem PySem.Spec PyProof.Rows L2

/-- a def as it stands behind the top, whatever its defaults -/
structure FunZ (K : PySem.W.Frag) (x qual : Str) (st : Stmt) (f : Addr) (fd : FuncData) : Prop where
  ex : ∃ (oc : Value) (od : Option Addr) (dV kV doc pm : Value) (an : Option Addr) (cdv ct : Value) (osl : Array (Option Value)),
    fd = PySem.W.fnOf x qual (defArgs st) (defBody st) (defScope st) dV kV doc pm an cdv ct ∧ K.lookup f = some ⟨oc, od, .func fd, osl⟩ ∧ PySem.W.codeIn K cdv qual = true
  kp : PySem.W.keepIn K (.ref f) = true
theorem Fun.z {K : PySem.W.Frag} {x qual : Str} {st : Stmt} {f : Addr} {fd : FuncData} (F : Fun K x qual st f fd) : FunZ K x qual st f fd := by
  obtain ⟨oc, od, kV, doc, pm, an, cdv, ct, osl, h1, h2, h3⟩ := F.ex
  exact ⟨⟨oc, od, _, kV, doc, pm, an, cdv, ct, osl, h1, h2, h3⟩, F.kp⟩
theorem FunD.z {K : PySem.W.Frag} {x qual : Str} {st : Stmt} {f : Addr} {fd : FuncData} {dvs : List V} {kws : List (Str × V)} (F : FunD K x qual (defArgs st) (defBody st) (defScope st) dvs kws f fd) : FunZ K x qual st f fd := by
  obtain ⟨oc, od, dV, kV, doc, pm, an, cdv, ct, osl, h1, h2, h3, _⟩ := F.ex
  exact ⟨⟨oc, od, dV, kV, doc, pm, an, cdv, ct, osl, h1, h2, h3⟩, F.kp⟩
section
variable {P : Program} {w : World} {K : PySem.W.Frag} {mg : Str → Option Value} {base : Heap} {C : CI} {k : Nat} {f : Addr} {fd : FuncData} {ps : List Str} {W : ZRC}
theorem fnz_okZ {y qual : Str} {st : Stmt} {N : List Str} (F : FunZ K y qual st f fd) (Sc : FnScope N ps (defScope st)) (len : ∀ ds Δ P, W ds Δ P → ds.length = ps.length)
    (body : ∀ (cdv : Value) (A : Around) (outer : List PySem.Env) (s : Shared) (H : Hp) (E : XK), Room k (A.deeper (PyProof.Rows.envOfC qual (defScope st) s.heap.objs.size f cdv)) →
      ∃ z : ZS, SZs C (cxOf CX0 P w K mg base N qual (defScope st) f cdv A outer s H E).nox (defBody st) z ∧ ∀ ds Δ P, W ds Δ P → z { nx := fun _ Δ' => P .non Δ', rt := P } (startZ N ds) Δ) : FnOk P w K mg base CX0 (k + 1) f fd ps (SpZ K C W) := by
  obtain ⟨oc, od, dV, kV, doc, pm, an, cdv, ct, osl, rfl, lk, hcd⟩ := F.ex
  refine fn_of lk hcd Sc (fun vs H Q E h => ?_) (fun A outer s H vs Q E hr h => ?_)
  · obtain ⟨S, A, Δ, ds, P, r, _, hw, _⟩ := h
    rw [r.length]
    exact len ds Δ P hw
  · obtain ⟨S, A', Δ, ds, P', r, hc, hw, kk⟩ := h
    obtain ⟨z, hz, hzz⟩ := body cdv A outer s H E hr
    obtain ⟨ts, h1, h2⟩ := hz.ex
    refine ⟨ts, h1.nox, h2 S A' _ H (startZ N ds) Δ { nx := fun _ Δ' => P' .non Δ', rt := P' } _ (slots_start r) hc (hzz ds Δ P' hw) ⟨?_, ?_, ?_, ?_⟩⟩
    · exact fun σ' A2 H2 Γ2 Δ2 e2 s2 c2 q => kk .non .non A2 H2 Δ2 e2 c2 .non q
    · exact fun σ' A2 H2 Γ2 Δ2 e2 s2 c2 q => q.elim
    · exact fun σ' A2 H2 Γ2 Δ2 e2 s2 c2 q => q.elim
    · exact fun v d A2 H2 Δ2 e2 c2 r2 q => kk v d A2 H2 Δ2 e2 c2 r2 q

/-! ### a new list that the caller never changes -/
theorem Cells.freezeL {K : PySem.W.Frag} {C : CI} {S A : List Addr} {H H0 : Hp} {Δ : Store} {x : Addr} {es : List D} (c1 : Cells K C S A H0 Δ) (hc : Cells K C S (A ++ [x]) H (Δ ++ [.lst es])) (hb : belowL A.length es = true) : Cells K C S A H Δ ∧ Rep K C S A H (.ref x) (.lst es) := by
  have lenΔ := c1.len
  refine ⟨⟨c1.len, c1.nd, c1.dj, hc.as, fun n a o h1 h2 => ?_⟩, ?_⟩
  · have hn : n < A.length := (List.getElem?_eq_some_iff.mp h1).1
    have q := hc.at_ n a o (by rw [List.getElem?_append_left hn]; exact h1) (by rw [List.getElem?_append_left (by rw [← lenΔ]; exact hn)]; exact h2)
    have q0 := c1.at_ n a o h1 h2
    cases o with
    | lst ds =>
      obtain ⟨xs, g1, g2⟩ := q
      obtain ⟨_, _, g3⟩ := q0
      exact ⟨xs, g1, RepL.drop_ ds (RepL.blw ds g3) g2⟩
    | ins c fs =>
      obtain ⟨dx, xs, g1, g2, g3⟩ := q
      obtain ⟨_, _, _, _, g4⟩ := q0
      exact ⟨dx, xs, g1, g2, RepL.drop_ _ (RepL.blw _ g4) g3⟩
    | dct ks ds =>
      obtain ⟨xs, g1, g2, g3⟩ := q
      obtain ⟨_, _, _, g4⟩ := q0
      exact ⟨xs, g1, g2, RepL.drop_ _ (RepL.blw _ g4) g3⟩
  · have q := hc.at_ A.length x (.lst es) (by rw [List.getElem?_append_right (Nat.le_refl _), Nat.sub_self] <;> rfl) (by rw [lenΔ, List.getElem?_append_right (Nat.le_refl _), Nat.sub_self] <;> rfl)
    obtain ⟨xs, g1, g2⟩ := q
    have hx : x ∉ A := fun h => by
      have := List.nodup_append.mp hc.nd
      exact this.2.2 x h x (by simp) rfl
    exact .lst g1 hx (hc.dj x (by simp)) (RepL.drop_ es hb g2)
def frz (W : ZRC) : ZRC := fun ds Δ P => W ds Δ fun d Δ' => ∃ es, d = .cell Δ.length ∧ Δ' = Δ ++ [.lst es] ∧ belowL Δ.length es = true ∧ P (.lst es) Δ
theorem sp_frz {vs : List V} {H : Hp} {Q : VK} {E : XK} (h : SpZ K C (frz W) vs H Q E) : SpZ K C W vs H Q E := by
  obtain ⟨S, A, Δ, ds, P, r, hc, hw, kk⟩ := h
  refine ⟨S, A, Δ, ds, _, r, hc, hw, fun v d A' H' Δ' e c r' q => ?_⟩
  obtain ⟨es, rfl, rfl, hb, p⟩ := q
  cases r' with
  | cell g =>
    rename_i x
    have hA' : A' = A ++ [x] := by
      obtain ⟨B, hB, _⟩ := e.pre
      have hlen := c.len
      have hl1 : ([O.lst es] : List O).length = 1 := rfl
      rw [hB, List.length_append, List.length_append, hc.len, hl1] at hlen
      have hB1 : B.length = 1 := by omega
      obtain ⟨b, hb1⟩ := List.length_eq_one_iff.mp hB1
      rw [hB, hb1, ← hc.len, List.getElem?_append_right (Nat.le_refl _), Nat.sub_self] at g
      cases g
      rw [hB, hb1]
    subst hA'
    obtain ⟨c5, r5⟩ := hc.freezeL c (by rw [hc.len]; exact hb)
    exact kk _ _ A H' Δ ⟨⟨[], by simp, by simp⟩, fun a o h1 h2 => e.keep a o h1 h2, e.trk⟩ c5 r5 p
theorem fn_frz (F : FnOk P w K mg base CX0 k f fd ps (SpZ K C W)) : FnOk P w K mg base CX0 k f fd ps (SpZ K C (frz W)) := F.imp fun _ _ _ _ h => sp_frz h
end
section
variable {C : CI} {X : Cx}
/-- new lists that are changed later -/
def zRepeatC : ZR2 := fun x y Δ P => ∃ ds k, lstD Δ x = some ds ∧ y = .int k ∧ -(2 ^ 63) ≤ k ∧ k < 2 ^ 63 ∧ ds.length * k.toNat ≤ 100000 ∧ P (.cell Δ.length) (Δ ++ [.lst (List.replicate k.toNat ds).flatten])
theorem oz_repC : OpZ C X (binaryOp .Mult) zRepeatC := ⟨_, op_rep, fun S A H Δ x y dx dy P Q hc rx ry hz k => by
  obtain ⟨ds, i, h1, rfl, h2, h3, hl, p⟩ := hz
  obtain ⟨a, xs, rfl, g1, g2⟩ := Rep.lst_ hc rx h1
  cases ry
  refine ⟨a, i, xs, rfl, rfl, g1, h2, h3, sz100 (by rw [g2.length]; exact hl), fun q hq => ?_⟩
  refine k _ _ (A ++ [q]) _ _ (Ext.newCell hq) (hc.newCell hq (g2.repl _)) (.cell ?_) p
  rw [← hc.len, List.getElem?_append_right (Nat.le_refl _), Nat.sub_self]
  rfl⟩
def zCatC : ZR2 := fun x y Δ P => ∃ ds es, lstD Δ x = some ds ∧ lstD Δ y = some es ∧ ds.length + es.length ≤ 100000 ∧ P (.cell Δ.length) (Δ ++ [.lst (ds ++ es)])
theorem oz_catC : OpZ C X (binaryOp .Add) zCatC := ⟨_, op_cat, fun S A H Δ x y dx dy P Q hc rx ry hz k => by
  obtain ⟨ds, es, h1, h2, hl, p⟩ := hz
  obtain ⟨a, xs, rfl, g1, g2⟩ := Rep.lst_ hc rx h1
  obtain ⟨b, ys, rfl, g3, g4⟩ := Rep.lst_ hc ry h2
  refine ⟨a, b, xs, ys, rfl, rfl, g1, g3, sz100 (by rw [g2.length, g4.length]; exact hl), fun q hq => ?_⟩
  refine k _ _ (A ++ [q]) _ _ (Ext.newCell hq) (hc.newCell hq (g2.append g4)) (.cell ?_) p
  rw [← hc.len, List.getElem?_append_right (Nat.le_refl _), Nat.sub_self]
  rfl⟩
end
theorem walkZ {l : PySem.W.OpenLaw} {n k : Nat} {q : Program} {loose : List Str} {XP : (Str → Option Value) → Heap → Prop} {YP : World → Heap → Prop} {d : DefRec} {K : Params → PySem.W.Frag} {x : Str}
    (hn : l.most = some n) (hn2 : n ≤ sizeLine) (hdf : d.params.defaults = []) (hr : Room k callerA) (hY : ∀ (w : World) (h : Heap), YP w h → (K w.params).In h)
    (F : ∀ (w : World) (mg : Str → Option Value) (fa : Addr) (h : Heap), (K w.params).In h → h.Ns mainGlobals mg → mg d.name = some (.ref fa) →
      ∃ (fd : FuncData) (C : CI) (W : ZRC), (∀ (s : Shared) (u : Value), BindsTo s fd ⟨[u], []⟩ [(x, u)]) ∧ (∀ base : Heap, (K w.params).In base → base.Ns mainGlobals mg → FnG l.prog w (K w.params) mg base k fa fd [x] (SpZ (K w.params) C W)) ∧
        ∀ ns : List Int, ns.length ≤ n → W [.scr ns] [] fun d _ => d = .bl true) : PySem.W.WalkO q loose XP YP l.row.toRowW d [] (fun f vs => PySem.call f vs) := by
  refine Att.attach_call hn hdf fun w s₀ s₁ mg mb fa o pm cd doc a vs ns G Y ho hd hcd hmg hobj hints hlen hg => ?_
  obtain ⟨fd, C, W, hb, hF, hW⟩ := F w mg fa _ (hY w _ Y) G.T.g hmg
  exact law_callG (hY w _ Y) G.T.g G.T.b G.T.builtins G.T.nolimit hg hobj hints (Nat.le_trans hlen hn2) hr hF hb (hW ns hlen)
end Z

/-! M1: evaluating readings over data; loops and comprehensions over lists of data. -/
namespace Z
open PySem PySem.Spec PyProof.Rows L2

theorem at0 {α : Type} {a : α} {l : List α} : atI (a :: l) 0 = some a := atI_nat (j := 0) rfl
theorem at1 {α : Type} {a b : α} {l : List α} : atI (a :: b :: l) 1 = some b := atI_nat (j := 1) rfl
theorem at2 {α : Type} {a b c : α} {l : List α} : atI (a :: b :: c :: l) 2 = some c := atI_nat (j := 2) rfl
theorem at3 {α : Type} {a b c d : α} {l : List α} : atI (a :: b :: c :: d :: l) 3 = some d := atI_nat (j := 3) rfl
theorem at4 {α : Type} {a b c d e : α} {l : List α} : atI (a :: b :: c :: d :: e :: l) 4 = some e := atI_nat (j := 4) rfl
theorem atN {α : Type} {l : List α} {i : Int} (h0 : 0 ≤ i) (h1 : i < l.length) : ∃ d, l[i.toNat]? = some d ∧ atI l i = some d := by
  have hl : i.toNat < l.length := by omega
  refine ⟨l[i.toNat], List.getElem?_eq_getElem hl, ?_⟩
  have e : ((i.toNat : Nat) : Int) = i := by omega
  have q := atI_nat (xs := l) (j := i.toNat) (List.getElem?_eq_getElem hl)
  rw [e] at q
  exact q
theorem ix0 {n : Nat} (h : 0 < n) : ixN n 0 = some 0 := by unfold ixN; rw [if_pos (by decide), if_pos (by omega)]; rfl
theorem ix2_3 : ixN 3 2 = some 2 := by decide
theorem ix0_3 : ixN 3 0 = some 0 := by decide
theorem isNon_int (i : Int) : Z.isNon (.int i) = false := rfl
theorem isNon_non : Z.isNon .non = true := rfl
theorem dec_not {p : Prop} [Decidable p] : (decide p = false) = ¬ p := by simp
theorem dec_yes {p : Prop} [Decidable p] : (decide p = true) = p := by simp
theorem t_t : (true = true) = True := by simp
theorem t_f : (true = false) = False := by simp
theorem f_t : (false = true) = False := by simp
theorem f_f : (false = false) = True := by simp

local macro_rules | `(tactic| walk_at "zm") => `(tactic| simp only [zSeq, zAsg, zRet, zRetN, zIfS, zNext, zDrop, zPar, zVar, zC, zOp, zUn, zNeg, zI0, zI, zTest, zAnd, zOr, zNot, zAndV, zOrV, zNotV, zIf, zNil, zCons, zTup, zLst, zLstC, zgName, zgTup, zgCons, zgNil, zgSub, startZ, zCall, zCB, zChain, zIsN, zNotN, zNever,
  zAddA, zMulA, zRepeat, zCat, zIx, seqD, lstD, zMax2, zMin2, zAbs, zLen, zSum, zGcd, zInt, zYes, zBreak, zCont,
  at0, at1, at2, at3, at4, ix2_3, ix0_3, isNon_int, isNon_non, Bool.not_true, Bool.not_false,
  List.map_cons, List.map_nil, List.length_cons, List.length_nil, List.replicate_succ, List.replicate_zero, List.append_nil, List.nil_append, List.cons_append, List.getElem?_cons_zero, List.getElem?_cons_succ, List.set_cons_zero, List.set_cons_succ,
  Option.some.injEq, D.int.injEq, D.bl.injEq, D.tup.injEq, D.lst.injEq, D.str.injEq, D.cell.injEq, O.lst.injEq, reduceCtorEq, exists_eq_left', exists_eq_left, false_and, and_false, true_and, and_true, exists_false, or_false, false_or, exists_and_left, exists_eq', exists_and_right, List.cons.injEq, dec_not, dec_yes, t_t, t_f, f_t, f_f, true_implies, false_implies, implies_true, and_self, Nat.reduceAdd, Nat.reduceLeDiff, Nat.reduceSub, Nat.reduceLT])

/-! ### loops -/
/-- a for: an invariant over the number of items behind, the slots and the store -/
theorem loop_inv {body : D → ZS} {Z : ZEnds} (I : Nat → Env → Store → Prop) : ∀ (xs : List D) (k : Nat) (Γ : Env) (Δ : Store), I k Γ Δ →
    (∀ i x Γ Δ (Z' : ZEnds), xs[i]? = some x → I (k + i) Γ Δ → (∀ Γ' Δ', I (k + i + 1) Γ' Δ' → Z'.nx Γ' Δ') → (∀ Γ' Δ', I (k + i + 1) Γ' Δ' → Z'.ct Γ' Δ') → Z'.rt = Z.rt → Z'.bk = Z.nx → body x Z' Γ Δ) →
    (∀ Γ Δ, I (k + xs.length) Γ Δ → Z.nx Γ Δ) → loopZ body Z xs Γ Δ
  | [], k, Γ, Δ, h0, _, hd => hd Γ Δ h0
  | x :: xs, k, Γ, Δ, h0, hs, hd => by
    have tail : ∀ Γ' Δ', I (k + 0 + 1) Γ' Δ' → loopZ body Z xs Γ' Δ' := fun Γ' Δ' h => loop_inv I xs (k + 1) Γ' Δ' h
      (fun i y Γ Δ Z' hy hi hn hc => hs (i + 1) y Γ Δ Z' (by simpa using hy) (by rw [show k + (i + 1) = k + 1 + i by omega]; exact hi) (fun Γ' Δ' q => hn Γ' Δ' (by rw [show k + 1 + i + 1 = k + (i + 1) + 1 by omega]; exact q)) (fun Γ' Δ' q => hc Γ' Δ' (by rw [show k + 1 + i + 1 = k + (i + 1) + 1 by omega]; exact q)))
      (fun Γ Δ q => hd Γ Δ (by rw [show k + (x :: xs).length = k + 1 + xs.length by rw [List.length_cons]; omega]; exact q))
    exact hs 0 x Γ Δ { Z with nx := loopZ body Z xs, ct := loopZ body Z xs, bk := Z.nx } rfl h0 tail tail rfl rfl
/-- the same where the number of turns does not matter -/
theorem loop_all {body : D → ZS} {Z : ZEnds} (I : Env → Store → Prop) {xs : List D} {Γ : Env} {Δ : Store} (h0 : I Γ Δ)
    (hs : ∀ x Γ Δ (Z' : ZEnds), x ∈ xs → I Γ Δ → (∀ Γ' Δ', I Γ' Δ' → Z'.nx Γ' Δ') → (∀ Γ' Δ', I Γ' Δ' → Z'.ct Γ' Δ') → Z'.rt = Z.rt → Z'.bk = Z.nx → body x Z' Γ Δ)
    (hd : ∀ Γ Δ, I Γ Δ → Z.nx Γ Δ) : loopZ body Z xs Γ Δ :=
  loop_inv (fun _ => I) xs 0 Γ Δ h0 (fun _ x Γ Δ Z' hx => hs x Γ Δ Z' (List.mem_of_getElem? hx)) hd
/-! ### comprehensions -/
/-- each item gives f of it, the store stays -/
theorem comp_map {zg : ZG} {ze : ZE} {Γ0 : Env} {P : D → Store → Prop} {Δ : Store} {α : Type} {g : α → D} {f : α → D} : ∀ (xs : List α) (acc : List D), acc.length + xs.length ≤ 100000 →
    (∀ x ∈ xs, ∀ Q : D → Store → Prop, Q (f x) Δ → zg (g x) Γ0 Δ fun Γ2 Δ2 => ze Γ2 Δ2 Q) → P (.lst (acc ++ xs.map f)) Δ → compZ zg zYes ze Γ0 P (xs.map g) acc Δ
  | [], acc, _, _, h => by simpa [compZ] using h
  | x :: xs, acc, hl, hs, h => by
    have ih : compZ zg zYes ze Γ0 P (xs.map g) (acc ++ [f x]) Δ := comp_map xs (acc ++ [f x]) (by simp at hl ⊢; omega) (fun y hy => hs y (List.mem_cons_of_mem _ hy)) (by simpa using h)
    show zg (g x) Γ0 Δ fun Γ2 Δ2 => (true = true → ze Γ2 Δ2 fun y Δ4 => acc.length < 100000 ∧ compZ zg zYes ze Γ0 P (xs.map g) (acc ++ [y]) Δ4) ∧ (true = false → compZ zg zYes ze Γ0 P (xs.map g) acc Δ2)
    simp only [true_implies, reduceCtorEq, false_implies, and_true]
    exact hs x List.mem_cons_self _ ⟨by simp at hl; omega, ih⟩
end Z

/-! Z9: a call that is given a cell's content: the def neither changes nor keeps the cell. -/
namespace Z
open PySem PySem.Spec PyProof.Rows L2
section
variable {K : PySem.W.Frag} {C : CI} {S A : List Addr} {H : Hp} {Δ : Store}
mutual
theorem Rep.bare : ∀ (d : D) {v : V}, below 0 d = true → Rep K C S A H v d → Rep K C S [] H v d
  | .non, _, _, h => by cases h; exact .non
  | .bl b, _, _, h => by cases h; exact .bl b
  | .int i, _, _, h => by cases h; exact .int i
  | .str x, _, _, h => by cases h; exact .str x
  | .ty n, _, _, h => by cases h; exact .ty n
  | .cls c, _, _, h => by cases h; exact .cls c
  | .tup ds, _, hb, h => by cases h with | tup h hA hS r => exact .tup h (fun q => nomatch q) hS (RepL.bare ds hb r)
  | .lst ds, _, hb, h => by cases h with | lst h hA hS r => exact .lst h (fun q => nomatch q) hS (RepL.bare ds hb r)
  | .ins c ds, _, hb, h => by cases h with | ins h hA hS hl r => exact .ins h (fun q => nomatch q) hS hl (RepL.bare ds hb r)
  | .dct ks ds, _, hb, h => by cases h with | dct h hA hS hl r => exact .dct h (fun q => nomatch q) hS hl (RepL.bare ds hb r)
  | .cell n, _, hb, h => by have := of_decide_eq_true (p := n < 0) hb; omega
  | .scr ns, _, _, h => by
    cases h with
    | scr h =>
      rcases h with ⟨h, hA, hS⟩ | h
      · exact .scr (.inl ⟨h, (fun q => nomatch q), hS⟩)
      · exact .scr (.inr h)
theorem RepL.bare : ∀ (ds : List D) {vs : List V}, belowL 0 ds = true → RepL K C S A H vs ds → RepL K C S [] H vs ds
  | [], _, _, h => by cases h; exact .nil
  | d :: ds, _, hb, h => by
    have hb' : (below 0 d && belowL 0 ds) = true := hb
    rw [Bool.and_eq_true] at hb'
    cases h with
    | cons h r => exact .cons (Rep.bare d hb'.1 h) (RepL.bare ds hb'.2 r)
end
/-- a cell that holds a list, read -/
def thaw (Δ : Store) : D → D
  | .cell n => match Δ[n]? with
    | some (.lst ds) => .lst ds
    | _ => .cell n
  | d => d
theorem Rep.thw (hc : Cells K C S A H Δ) : ∀ (d : D) {v : V}, Z.below 0 (Z.thaw Δ d) = true → Rep K C S A H v d → Rep K C S [] H v (Z.thaw Δ d)
  | .cell n, v, hb, h => by
    unfold Z.thaw at hb ⊢
    cases q : Δ[n]? with
    | none => simp only [q] at hb; have := of_decide_eq_true (p := n < 0) hb; omega
    | some o =>
      cases o with
      | ins c fs => simp only [q] at hb; have := of_decide_eq_true (p := n < 0) hb; omega
      | dct ks fs => simp only [q] at hb; have := of_decide_eq_true (p := n < 0) hb; omega
      | lst ds =>
        simp only [q] at hb ⊢
        cases h with
        | cell e =>
          obtain ⟨xs, h1, h2⟩ := hc.at_ n _ _ e q
          exact .lst h1 (fun q => nomatch q) (hc.dj _ (List.mem_of_getElem? e)) (RepL.bare ds hb h2)
  | .non, _, hb, h => Rep.bare .non hb h
  | .bl b, _, hb, h => Rep.bare (.bl b) hb h
  | .int i, _, hb, h => Rep.bare (.int i) hb h
  | .str x, _, hb, h => Rep.bare (.str x) hb h
  | .ty n, _, hb, h => Rep.bare (.ty n) hb h
  | .cls c, _, hb, h => Rep.bare (.cls c) hb h
  | .tup ds, _, hb, h => Rep.bare (.tup ds) hb h
  | .lst ds, _, hb, h => Rep.bare (.lst ds) hb h
  | .ins c ds, _, hb, h => Rep.bare (.ins c ds) hb h
  | .scr ns, _, hb, h => Rep.bare (.scr ns) hb h
  | .dct ks ds, _, hb, h => Rep.bare (.dct ks ds) hb h
theorem RepL.thw (hc : Cells K C S A H Δ) : ∀ (ds : List D) {vs : List V}, Z.belowL 0 (ds.map (Z.thaw Δ)) = true → RepL K C S A H vs ds → RepL K C S [] H vs (ds.map (Z.thaw Δ))
  | [], _, _, h => by cases h; exact .nil
  | d :: ds, _, hb, h => by
    have hb' : (Z.below 0 (Z.thaw Δ d) && Z.belowL 0 (ds.map (Z.thaw Δ))) = true := hb
    rw [Bool.and_eq_true] at hb'
    cases h with
    | cons h r => exact .cons (Rep.thw hc d hb'.1 h) (RepL.thw hc ds hb'.2 r)
/-- a value that stands nowhere -/
def bareD : D → Bool
  | .non | .bl _ | .int _ | .str _ => true
  | _ => false
theorem Rep.of_bare {A' : List Addr} {v : V} {d : D} (hb : bareD d = true) (h : Rep K C S A' H v d) : Rep K C S A H v d := by
  cases h with
  | non => exact .non
  | bl b => exact .bl b
  | int i => exact .int i
  | str x => exact .str x
  | _ => cases hb
end
def zCallB (W : ZRC) (za : ZA) : ZE := fun Γ Δ P => za Γ Δ fun ds Δ1 => Z.belowL 0 (ds.map (Z.thaw Δ1)) = true ∧ W (ds.map (Z.thaw Δ1)) [] fun d _ => bareD d = true ∧ P d Δ1
section
variable {C : CI} {X : Cx} {e : Expr} {es : List Expr} {za : ZA} {pos p : Pos} {x : Str} {k : Nat} {f : Addr} {fd : FuncData} {ps : List Str} {W : ZRC}
theorem ref_callB {K : PySem.W.Frag} {ta : TA} {E : XK} (ha : RefA K C ta za) : RefE K C (tCall (SpZ K C W) [] E ta) (zCallB W za) := fun S A σ H Γ Δ P Q hs hc hz k =>
  ha S A σ H Γ Δ _ _ hs hc hz fun vs ds A1 H1 Δ1 e1 c1 r1 p => by
    obtain ⟨hb, p⟩ := p
    refine ⟨S, [], [], ds.map (Z.thaw Δ1), _, ?_, ⟨rfl, .nil, (fun a ha => nomatch ha), c1.as, (fun n a o h => nomatch h)⟩, p, fun v d A' H' Δ' e2 c2 r2 p2 => ?_⟩
    · rw [List.append_nil]; exact RepL.thw c1 ds hb r1
    · have kp : ∀ a o, H1 a = some o → H' a = some o := fun a o h => e2.keep a o (fun q => nomatch q) h
      exact k v d A1 H' Δ1 (e1.trans (Ext.kept kp)) (c1.kept kp) (r2.of_bare p2.1) p2.2
theorem ez_callb (F : FnOk X.prog X.w X.K X.mg X.base CX0 k f fd ps (SpZ X.K C W)) (hr : Room k X.A) (hm : X.mg x = some (.ref f)) (hk : PySem.W.keepIn X.K (.ref f) = true) (hb : Binds X.K fd ps [])
    (ha : AZ C X (e :: es) za) (hg : Gl X x := by rfl) (hdb : (x == ("__debug__" : Str)) = false := by decide) (he : starEach (e :: es) X.env = (false, eval e X.env) :: starEach es X.env := by rfl) (hpl : (backTo pos (starEach es X.env)).any (·.1) = false := by rfl) :
    EZ C X (.Call (.Name x p) (e :: es) [] pos) (zCallB W za) := by
  obtain ⟨t, a1, a2⟩ := ha.ex
  exact ⟨_, pe_call F hr hg hm hk hb .nil pass0 a1 hdb he hpl, ref_callB a2⟩
end
end Z

/-! Z10: an instance made by a call with keywords; a tuple's cut. -/
namespace Z
open PySem PySem.Spec PyProof.Rows L2
/-- where a parameter's value comes from: the i-th default, the j-th keyword -/
inductive Pk where
  | d (i : Nat)
  | k (j : Nat)
def picked {α : Type} (its ws : List α) : List Pk → List α
  | [] => []
  | .d i :: r => its[i]?.toList ++ picked its ws r
  | .k j :: r => ws[j]?.toList ++ picked its ws r
theorem Vals.opt {vs : List V} {us : List Value} (r : Vals vs us) (i : Nat) : Vals (vs[i]?.toList) (us[i]?.toList) := by
  induction r generalizing i with
  | nil => simp only [List.getElem?_nil, Option.toList_none]; exact .nil
  | cons h r ih =>
    cases i with
    | zero => exact .cons h .nil
    | succ i => exact ih i
theorem Vals.picked {vs zs : List V} {us ws : List Value} (r : Vals vs us) (r2 : Vals zs ws) : ∀ l : List Pk, Vals (Z.picked vs zs l) (Z.picked us ws l)
  | [] => .nil
  | .d i :: l => (Vals.opt r i).append (Vals.picked r r2 l)
  | .k j :: l => (Vals.opt r2 j).append (Vals.picked r r2 l)
section
variable {K : PySem.W.Frag} {C : CI} {S A : List Addr} {H : Hp}
theorem RepL.opt : ∀ {vs : List V} {ds : List D} (r : RepL K C S A H vs ds) (i : Nat), RepL K C S A H (vs[i]?.toList) (ds[i]?.toList)
  | _, _, .nil, i => by simp only [List.getElem?_nil, Option.toList_none]; exact .nil
  | _, _, .cons h r, 0 => .cons h .nil
  | _, _, .cons h r, i + 1 => RepL.opt r i
theorem RepL.picked {vs zs : List V} {us ws : List D} (r : RepL K C S A H vs us) (r2 : RepL K C S A H zs ws) : ∀ l : List Pk, RepL K C S A H (Z.picked vs zs l) (Z.picked us ws l)
  | [] => .nil
  | .d i :: l => (RepL.opt r i).append (RepL.picked r r2 l)
  | .k j :: l => (RepL.opt r2 j).append (RepL.picked r r2 l)
end
/-- no built-in type's value is an instance of an own class -/
theorem kit_no {K : PySem.W.Frag} {n : String} {Ca : Addr} (h1 : PySem.W.isClsIn K Ca = true) (h2 : PySem.W.typeIn K (.ref Ca) = some (.type "type")) (h3 : PySem.W.notFirst K Ca (.type n) = true) : PySem.W.kitOne K (.type n) (.ref Ca) = some false := by
  have e : (Value.type n == Value.ref Ca) = false := rfl
  unfold PySem.W.notFirst at h3
  rw [e, Bool.false_or] at h3
  unfold PySem.W.kitOne PySem.W.kitCls
  rw [e, if_neg (by decide)]
  show (if ((PySem.W.clsIn K Ca).isSome && PySem.W.typeIn K (.ref Ca) == some (.type "type")) = true then _ else none) = _
  rw [if_pos]
  · exact beq_iff_eq.mp h3
  · rw [show (PySem.W.clsIn K Ca).isSome = true from h1, h2]
    exact beq_self_eq_true _
/-- C(e, .., k = v, ..), never changed again -/
def zMakeK (C : CI) (c n m : Nat) (W : ZRC) (dds : List D) (l : List Pk) (za zk : ZA) : ZE := fun Γ Δ P => za Γ Δ fun ds Δ1 => zk Γ Δ1 fun zs Δ2 => ds.length = n ∧ zs.length = m ∧
  W (.cell Δ2.length :: (ds ++ picked dds zs l)) (Δ2 ++ [.ins c []]) fun v Δ3 => v = .non ∧ ∃ es, Δ3 = Δ2 ++ [.ins c ((C.nms c).zip es)] ∧ es.length = (C.nms c).length ∧ belowL Δ2.length es = true ∧ P (.ins c es) Δ2
/-- keywords -/
structure KZ (C : CI) (X : Cx) (kws : List Keyword) (z : ZA) : Prop where
  ex : ∃ t, PK X kws t ∧ RefA X.K C t z
section
variable {C : CI} {X : Cx} {e : Expr} {es : List Expr} {kws : List Keyword} {za zk : ZA} {ze : ZE} {pos p kpos : Pos} {x : Str} {k n : Nat} {f : Addr} {fd : FuncData} {ps ks : List Str} {W : ZRC} {dvs : List V} {dds : List D} {l : List Pk} {nm : Option Str}
theorem kz_nil : KZ C X [] zNil := ⟨_, pk_nil, fun S A σ H Γ Δ P Q hs hc hz k => k [] [] A H Δ (Ext.refl _ _) hc .nil hz⟩
theorem kz_cons (ha : EZ C X e ze) (hr : KZ C X kws zk) : KZ C X (⟨nm, e, kpos⟩ :: kws) (zCons ze zk) := by
  obtain ⟨t, h1, h2⟩ := ha.ex
  obtain ⟨u, g1, g2⟩ := hr.ex
  exact ⟨_, pk_cons h1 g1, fun S A σ H Γ Δ P Q hs hc hz k => h2 S A σ H Γ Δ _ _ hs hc hz fun x dx A1 H1 Δ1 e1 c1 r1 hz1 =>
    g2 S A1 σ H1 Γ Δ1 _ _ (hs.ext e1) c1 hz1 fun vs ds A2 H2 Δ2 e2 c2 r2 p => k _ _ A2 H2 Δ2 (e1.trans e2) c2 (.cons (r1.ext e2) r2) p⟩
theorem ref_makeK {K : PySem.W.Frag} {c m : Nat} {ta tk : TA} {E : XK} (ha : RefA K C ta za) (hk : RefA K C tk zk) (hdd : ∀ S A H, RepL K C S A H dvs dds) : RefE K C (tMakeK (C.adr c) n m (SpZ K C W) (fun vs zs => vs ++ picked dvs zs l) E ta tk) (zMakeK C c n m W dds l za zk) := fun S A σ H Γ Δ P Q hs hc hz k =>
  ha S A σ H Γ Δ _ _ hs hc hz fun vs ds A0 H0 Δ0 e0 c0 r0 p0 => hk S A0 σ H0 Γ Δ0 _ _ (hs.ext e0) c0 p0 fun zs ks A1 H1 Δ1 e01 c1 rk p => by
    obtain ⟨l1, l2, p⟩ := p
    have r1 := r0.ext e01
    have e1 := e0.trans e01
    refine ⟨by rw [r1.length]; exact l1, by rw [rk.length]; exact l2, fun x dx hx hdx hne => ?_⟩
    have hx0 : upd H1 dx (.own x) x = none := by rw [upd_ne (Ne.symm hne)]; exact hx
    have e2 : Ext A1 H1 A1 (upd H1 dx (.own x)) := Ext.new hdx
    have e3 : Ext A1 (upd H1 dx (.own x)) (A1 ++ [x]) (upd (upd H1 dx (.own x)) x (.ins (C.adr c) dx [])) := Ext.newCell hx0
    have e23 := e2.trans e3
    refine ⟨S, A1 ++ [x], Δ1 ++ [.ins c []], .cell Δ1.length :: (ds ++ picked dds ks l), _, .cons (.cell ?_) ((r1.ext e23).append (RepL.picked (hdd _ _ _) (rk.ext e23) l)), (c1.new hdx).newO (o := .ins c []) hx0 ⟨dx, [], upd_same, rfl, .nil⟩, p, fun v d A' H' Δ' e4 c4 r4 p4 => ?_⟩
    · rw [← c1.len, List.getElem?_append_right (Nat.le_refl _), Nat.sub_self] <;> rfl
    · obtain ⟨rfl, es, rfl, hl, hb, p4⟩ := p4
      cases r4
      refine ⟨rfl, ?_⟩
      have hA' : A' = A1 ++ [x] := by
        obtain ⟨B, hB, _⟩ := e4.pre
        have hlen := c4.len
        rw [hB, List.length_append, List.length_append, List.length_append, c1.len] at hlen
        have hB0 : B.length = 0 := by
          have h1 : ([x] : List Addr).length = 1 := rfl
          have h2 : ([O.ins c ((C.nms c).zip es)] : List O).length = 1 := rfl
          omega
        rw [List.length_eq_zero_iff.mp hB0, List.append_nil] at hB
        exact hB
      subst hA'
      obtain ⟨c5, r5⟩ := c1.freeze c4 hl (by rw [c1.len]; exact hb)
      have e14 := e23.trans e4
      refine k _ _ A1 H' Δ1 (e1.trans ⟨⟨[], by simp, by simp⟩, fun a o h1 h2 => e14.keep a o h1 h2, e14.trk⟩) c5 r5 p4
theorem ez_makeK {c : Nat} (M : Mk X.K (C.adr c) f) (F : FnOk X.prog X.w X.K X.mg X.base CX0 k f fd ps (SpZ X.K C W)) (hr : Room (k + 1) X.A) (hm : X.mg x = some (.ref (C.adr c))) (hb : ∃ its : List Value, KBn X.K fd ps (n + 1) ks (fun us ws => us ++ picked its ws l) (fun vs zs => vs ++ picked dvs zs l))
    (hdd : ∀ S A H, RepL X.K C S A H dvs dds) (ha : AZ C X (e :: es) za) (hk : KZ C X kws zk) (hg : Gl X x := by rfl)
    (hall : (backToKw pos (keywordEach kws X.env)).all (·.1.isSome) = true := by rfl) (hks : (backToKw pos (keywordEach kws X.env)).filterMap (·.1) = ks := by rfl) (hdb : (x == ("__debug__" : Str)) = false := by decide)
    (he : starEach (e :: es) X.env = (false, eval e X.env) :: starEach es X.env := by rfl) (hpl : ((backTo pos (starEach (e :: es) X.env)).any (·.1) || (backToKw pos (keywordEach kws X.env)).any (·.1.isNone)) = false := by rfl) :
    EZ C X (.Call (.Name x p) (e :: es) kws pos) (zMakeK C c n ks.length W dds l za zk) := by
  obtain ⟨t, a1, a2⟩ := ha.ex
  obtain ⟨u, k1, k2⟩ := hk.ex
  obtain ⟨its, hb⟩ := hb
  exact ⟨_, pe_makeK M F hr hg hm hb pass0 (E := E0) a1 k1 hall hks hdb he hpl, ref_makeK a2 k2 hdd⟩
theorem ez_makeK0 {c : Nat} (M : Mk X.K (C.adr c) f) (F : FnOk X.prog X.w X.K X.mg X.base CX0 k f fd ps (SpZ X.K C W)) (hr : Room (k + 1) X.A) (hm : X.mg x = some (.ref (C.adr c))) (hb : ∃ its : List Value, KBn X.K fd ps 1 ks (fun us ws => us ++ picked its ws l) (fun vs zs => vs ++ picked dvs zs l))
    (hdd : ∀ S A H, RepL X.K C S A H dvs dds) (hk : KZ C X kws zk) (hg : Gl X x := by rfl)
    (hall : (backToKw pos (keywordEach kws X.env)).all (·.1.isSome) = true := by rfl) (hks : (backToKw pos (keywordEach kws X.env)).filterMap (·.1) = ks := by rfl) (hdb : (x == ("__debug__" : Str)) = false := by decide)
    (hpl : ((backTo pos (starEach [] X.env)).any (·.1) || (backToKw pos (keywordEach kws X.env)).any (·.1.isNone)) = false := by rfl) :
    EZ C X (.Call (.Name x p) [] kws pos) (zMakeK C c 0 ks.length W dds l zNil zk) := by
  obtain ⟨u, k1, k2⟩ := hk.ex
  obtain ⟨its, hb⟩ := hb
  exact ⟨_, pe_makeK0 M F hr hg hm hb pass0 (E := E0) k1 hall hks hdb hpl, ref_makeK (n := 0) (fun S A σ H Γ Δ P Q hs hc hz k => k [] [] A H Δ (Ext.refl _ _) hc .nil hz) k2 hdd⟩
theorem ez_makeD {c : Nat} (M : Mk X.K (C.adr c) f) (F : FnOk X.prog X.w X.K X.mg X.base CX0 k f fd ps (SpZ X.K C W)) (hr : Room (k + 1) X.A) (hm : X.mg x = some (.ref (C.adr c))) (hb : ∃ ts : List Value, Vals dvs ts ∧ Binds X.K fd ps ts) (hdd : ∀ S A H, RepL X.K C S A H dvs dds)
    (ha : AZ C X (e :: es) za) (hg : Gl X x := by rfl) (hdb : (x == ("__debug__" : Str)) = false := by decide) (he : starEach (e :: es) X.env = (false, eval e X.env) :: starEach es X.env := by rfl) (hpl : (backTo pos (starEach es X.env)).any (·.1) = false := by rfl) :
    EZ C X (.Call (.Name x p) (e :: es) [] pos) (zMakeF C c W dds za) := by
  obtain ⟨ts, h1, h2⟩ := hb
  exact ez_makeF M F hr hm h2 h1 hdd ha hg hdb he hpl
/-- t[lo:hi], not the whole of it -/
def zSlT (z : ZE) (zl zh : ZO) : ZE := fun Γ Δ P => z Γ Δ fun x Δ1 => zl Γ Δ1 fun l Δ2 => zh Γ Δ2 fun u Δ3 => ∃ ds, x = .tup ds ∧ ¬ (HT.sIx ds.length 0 l = 0 ∧ HT.sIx ds.length ds.length u = ds.length) ∧ P (.tup (Z.cutD ds l u)) Δ3
theorem ez_slT {a : Expr} {lo hi : Option Expr} {z : ZE} {zl zh : ZO} {p2 : Pos} (ha : EZ C X a z) (hl : OZ C X lo zl) (hh : OZ C X hi zh) : EZ C X (.Subscript a (.Slice lo hi none p2) pos) (zSlT z zl zh) := by
  obtain ⟨t, a1, a2⟩ := ha.ex
  obtain ⟨tl, l1, l2⟩ := hl.ex
  obtain ⟨th, u1, u2⟩ := hh.ex
  refine ⟨_, pe_slice sl_tup a1 l1 u1, fun S A σ H Γ Δ P Q hs hc hz k => a2 S A σ H Γ Δ _ _ hs hc hz fun x dx A1 H1 Δ1 e1 c1 r1 hz1 => ?_⟩
  refine l2 S A1 σ H1 Γ Δ1 _ _ (hs.ext e1) c1 hz1 fun l A2 H2 Δ2 e2 c2 hz2 => u2 S A2 σ H2 Γ Δ2 _ _ ((hs.ext e1).ext e2) c2 hz2 fun u A3 H3 Δ3 e3 c3 hz3 => ?_
  obtain ⟨ds, rfl, hw, p⟩ := hz3
  have r3 := (r1.ext e2).ext e3
  cases r3 with
  | tup g1 g2 g3 g4 =>
    rename_i a xs
    refine ⟨a, xs, rfl, SqT.of g1, by rw [g4.length]; exact hw, fun q hq => ?_⟩
    have hcut : RepL X.K C S A3 H3 (cutV xs l u) (Z.cutD ds l u) := by
      unfold cutV Z.cutD
      rw [g4.length]
      exact (g4.drop _).take _
    have e4 := Ext.new (A := A3) (o := .tup (cutV xs l u)) hq
    exact k _ _ A3 _ Δ3 (((e1.trans e2).trans e3).trans e4) (c3.new hq) (.tup upd_same (c3.fresh hq) (c3.aside hq) (hcut.ext e4)) p
end
/-! ### a new list that the caller never changes, made while cells were written -/
def blwO (m : Nat) : O → Bool
  | .lst ds => belowL m ds
  | .ins _ fs => belowL m (fs.map (·.2))
  | .dct _ ds => belowL m ds
theorem Cells.freezeM {K : PySem.W.Frag} {C : CI} {S A : List Addr} {H H0 : Hp} {Δ Δ1 : Store} {x : Addr} {es : List D} (c1 : Cells K C S A H0 Δ) (hc : Cells K C S (A ++ [x]) H (Δ1 ++ [.lst es])) (hl : Δ1.length = Δ.length)
    (hw : ∀ (n : Nat) (o : O), Δ1[n]? = some o → Δ[n]? = some o ∨ blwO Δ.length o = true) (hb : belowL A.length es = true) : Cells K C S A H Δ1 ∧ Rep K C S A H (.ref x) (.lst es) := by
  have lenΔ : A.length = Δ1.length := by rw [hl]; exact c1.len
  refine ⟨⟨lenΔ, c1.nd, c1.dj, hc.as, fun n a o h1 h2 => ?_⟩, ?_⟩
  · have hn : n < A.length := (List.getElem?_eq_some_iff.mp h1).1
    have q := hc.at_ n a o (by rw [List.getElem?_append_left hn]; exact h1) (by rw [List.getElem?_append_left (by rw [← lenΔ]; exact hn)]; exact h2)
    have hb2 : blwO A.length o = true := by
      rcases hw n o h2 with h | h
      · have q0 := c1.at_ n a o h1 h
        cases o with
        | lst ds =>
          obtain ⟨_, _, g3⟩ := q0
          exact RepL.blw ds g3
        | ins c fs =>
          obtain ⟨_, _, _, _, g4⟩ := q0
          exact RepL.blw _ g4
        | dct ks ds =>
          obtain ⟨_, _, _, g4⟩ := q0
          exact RepL.blw _ g4
      · rw [c1.len]; exact h
    cases o with
    | lst ds =>
      obtain ⟨xs, g1, g2⟩ := q
      exact ⟨xs, g1, RepL.drop_ ds hb2 g2⟩
    | ins c fs =>
      obtain ⟨dx, xs, g1, g2, g3⟩ := q
      exact ⟨dx, xs, g1, g2, RepL.drop_ _ hb2 g3⟩
    | dct ks ds =>
      obtain ⟨xs, g1, g2, g3⟩ := q
      exact ⟨xs, g1, g2, RepL.drop_ _ hb2 g3⟩
  · have q := hc.at_ A.length x (.lst es) (by rw [List.getElem?_append_right (Nat.le_refl _), Nat.sub_self] <;> rfl) (by rw [lenΔ, List.getElem?_append_right (Nat.le_refl _), Nat.sub_self] <;> rfl)
    obtain ⟨xs, g1, g2⟩ := q
    have hx : x ∉ A := fun h => by
      have := List.nodup_append.mp hc.nd
      exact this.2.2 x h x (by simp) rfl
    exact .lst g1 hx (hc.dj x (by simp)) (RepL.drop_ es hb g2)
def frzM (W : ZRC) : ZRC := fun ds Δ P => W ds Δ fun d Δ' => ∃ es Δ1, d = .cell Δ1.length ∧ Δ' = Δ1 ++ [.lst es] ∧ Δ1.length = Δ.length ∧ (∀ (n : Nat) (o : O), Δ1[n]? = some o → Δ[n]? = some o ∨ blwO Δ.length o = true) ∧ belowL Δ.length es = true ∧ P (.lst es) Δ1
section
variable {P : Program} {w : World} {K : PySem.W.Frag} {mg : Str → Option Value} {base : Heap} {C : CI} {k : Nat} {f : Addr} {fd : FuncData} {ps : List Str} {W : ZRC}
theorem sp_frzM {vs : List V} {H : Hp} {Q : VK} {E : XK} (h : SpZ K C (frzM W) vs H Q E) : SpZ K C W vs H Q E := by
  obtain ⟨S, A, Δ, ds, P, r, hc, hw, kk⟩ := h
  refine ⟨S, A, Δ, ds, _, r, hc, hw, fun v d A' H' Δ' e c r' q => ?_⟩
  obtain ⟨es, Δ1, rfl, rfl, hl, hch, hb, p⟩ := q
  cases r' with
  | cell g =>
    rename_i x
    have hA' : A' = A ++ [x] := by
      obtain ⟨B, hB, _⟩ := e.pre
      have hlen := c.len
      have hl1 : ([O.lst es] : List O).length = 1 := rfl
      rw [hB, List.length_append, List.length_append, hc.len, hl1, hl] at hlen
      have hB1 : B.length = 1 := by omega
      obtain ⟨b, hb1⟩ := List.length_eq_one_iff.mp hB1
      rw [hB, hb1, hl, ← hc.len, List.getElem?_append_right (Nat.le_refl _), Nat.sub_self] at g
      cases g
      rw [hB, hb1]
    subst hA'
    obtain ⟨c5, r5⟩ := hc.freezeM c hl hch (by rw [hc.len]; exact hb)
    exact kk _ _ A H' Δ1 ⟨⟨[], by simp, by simp⟩, fun a o h1 h2 => e.keep a o h1 h2, e.trk⟩ c5 r5 p
theorem fn_frzM (F : FnOk P w K mg base CX0 k f fd ps (SpZ K C W)) : FnOk P w K mg base CX0 k f fd ps (SpZ K C (frzM W)) := F.imp fun _ _ _ _ h => sp_frzM h
end
end Z

/-! Z11: a comprehension with two generators. -/
namespace Z
open PySem PySem.Spec PyProof.Rows L2
/-- the outer items; the inner ones go on with the same new list -/
def comp2Z (zg : ZG) (zt : ZT) (zi1 : ZI) (zg1 : ZG) (zt1 : ZT) (ze : ZE) (vs1 : List Nat) (Γ0 : Env) (P : D → Store → Prop) : List D → List D → Store → Prop
  | [], acc, Δ => P (.lst acc) Δ
  | x :: xs, acc, Δ => zg x Γ0 Δ fun Γ2 Δ2 => zt Γ2 Δ2 fun b Δ3 => (b = true → zi1 Γ2 Δ3 fun items Δ4 => compZ zg1 zt1 ze (wipeZ Γ2 vs1) (fun d Δ' => ∃ acc', d = .lst acc' ∧ comp2Z zg zt zi1 zg1 zt1 ze vs1 Γ0 P xs acc' Δ') items acc Δ4) ∧ (b = false → comp2Z zg zt zi1 zg1 zt1 ze vs1 Γ0 P xs acc Δ3)
def zLc2 (zi : ZI) (zg : ZG) (zt : ZT) (zi1 : ZI) (zg1 : ZG) (zt1 : ZT) (ze : ZE) (vs vs1 : List Nat) : ZE := fun Γ Δ P => zi Γ Δ fun items Δ1 => comp2Z zg zt zi1 zg1 zt1 ze vs1 (wipeZ Γ vs) P items [] Δ1
section
variable {K : PySem.W.Frag} {C : CI} {S : List Addr} {q : Addr}
/-- the new list at q grows -/
theorem grow_mo {A : List Addr} {H : Hp} {l : List V} : Mo (q :: S) A H (q :: S) A (upd H q (.lst l)) := ⟨⟨[], by simp, by simp⟩, fun _ h => .inl h, fun a o _ h2 h3 => by
  rw [upd_ne (fun h => h2 (by rw [h]; exact List.mem_cons_self))]; exact h3⟩
theorem grow_cells {A : List Addr} {H : Hp} {Δ : Store} {l : List V} (c : Cells K C (q :: S) A H Δ) : Cells K C (q :: S) A (upd H q (.lst l)) Δ := by
  have hq : q ∉ A := fun h => c.dj q h List.mem_cons_self
  refine ⟨c.len, c.nd, c.dj, fun a ha h => ?_, fun n a o h1 h2 => (c.at_ n a o h1 h2).mono grow_mo fun u h => ?_⟩
  · by_cases hb : a = q
    · subst hb; rw [upd_same] at h; cases h
    · rw [upd_ne hb] at h; exact c.as a ha h
  · rw [upd_ne (fun hb => hq (by rw [← hb]; exact List.mem_of_getElem? h1))]; exact h
/-- what the new list at q is, all along -/
structure At (K : PySem.W.Frag) (C : CI) (S : List Addr) (q : Addr) (A0 : List Addr) (H0 : Hp) (A : List Addr) (H : Hp) (Δ : Store) (acc : List D) : Prop where
  mo : Mo (q :: S) A0 H0 (q :: S) A H
  trk : ∀ a, H a = none → H0 a = none
  kp : ∀ a o, a ∉ A0 → a ≠ q → H0 a = some o → H a = some o
  cells : Cells K C (q :: S) A H Δ
  lst : ∃ accV, H q = some (.lst accV) ∧ RepL K C (q :: S) A H accV acc
theorem At.ext {A0 A A' : List Addr} {H0 H H' : Hp} {Δ Δ' : Store} {acc : List D} (h : At K C S q A0 H0 A H Δ acc) (e : Ext A H A' H') (c : Cells K C (q :: S) A' H' Δ') : At K C S q A0 H0 A' H' Δ' acc := by
  obtain ⟨accV, h1, h2⟩ := h.lst
  have hq : q ∉ A := fun z => h.cells.dj q z List.mem_cons_self
  obtain ⟨B, hB, nB⟩ := h.mo.pre
  obtain ⟨B', hB', nB'⟩ := e.pre
  have hin : ∀ a o, a ∈ A → H0 a = some o → a ∈ A0 := fun a o ha ho => by
    rw [hB] at ha
    rcases List.mem_append.mp ha with ha | ha
    · exact ha
    · rw [nB a ha] at ho; cases ho
  refine ⟨⟨⟨B ++ B', by rw [hB', hB, List.append_assoc], fun b hb => ?_⟩, fun _ z => .inl z, fun a o g1 g2 g3 => ?_⟩, fun a z => h.trk a (e.trk a z), fun a o g1 g2 g3 => ?_, c, accV, e.keep q _ hq h1, h2.ext e⟩
  · rcases List.mem_append.mp hb with hb | hb
    · exact nB b hb
    · exact h.trk b (nB' b hb)
  · exact e.keep a o (fun z => g1 (hin a o z g3)) (h.mo.keep a o g1 g2 g3)
  · exact e.keep a o (fun z => g1 (hin a o z g3)) (h.kp a o g1 g2 g3)
theorem At.grow {A0 A : List Addr} {H0 H : Hp} {Δ : Store} {acc : List D} {accV : List V} {y : V} {d : D} (h : At K C S q A0 H0 A H Δ acc) (h1 : H q = some (.lst accV)) (h2 : RepL K C (q :: S) A H accV acc) (r : Rep K C (q :: S) A H y d) : At K C S q A0 H0 A (upd H q (.lst (accV ++ [y]))) Δ (acc ++ [d]) := by
  refine ⟨⟨h.mo.pre, fun _ z => .inl z, fun a o g1 g2 g3 => ?_⟩, fun a z => ?_, fun a o g1 g2 g3 => ?_, grow_cells h.cells, _, upd_same, (RepL.append h2 (.cons r .nil)).mono grow_mo _⟩
  · rw [upd_ne (fun z => g2 (by rw [z]; exact List.mem_cons_self))]; exact h.mo.keep a o g1 g2 g3
  · by_cases hb : a = q
    · subst hb; rw [upd_same] at z; cases z
    · rw [upd_ne hb] at z; exact h.trk a z
  · rw [upd_ne g2]; exact h.kp a o g1 g2 g3
theorem At.here {A : List Addr} {H : Hp} {Δ : Store} {acc : List D} (c : Cells K C (q :: S) A H Δ) (l : ∃ accV, H q = some (.lst accV) ∧ RepL K C (q :: S) A H accV acc) : At K C S q A H A H Δ acc :=
  ⟨⟨⟨[], by simp, by simp⟩, fun _ z => .inl z, fun _ _ _ _ h => h⟩, fun _ h => h, fun _ _ _ _ h => h, c, l⟩
theorem drop_cons {α : Type} {l : List α} {i : Nat} {d : α} (h : l[i]? = some d) : l.drop i = d :: l.drop (i + 1) := by
  obtain ⟨hl, q⟩ := List.getElem?_eq_some_iff.mp h
  rw [← q]
  exact List.drop_eq_getElem_cons hl
theorem lc_in {wi1 : TI} {g1 : TG} {tt1 : TT} {te : TE} {zi1 : ZI} {zg1 : ZG} {zt1 : ZT} {ze : ZE} {vs1 : List Nat} (hi : RefI K C wi1 zi1) (hg : RefG K C g1 zg1) (ho : Own g1 vs1) (ht : RefT K C tt1 zt1) (he : RefE K C te ze)
    {A0 A : List Addr} {H0 H : Hp} {σ : L2.St} {Γ : Env} {Δ : Store} {acc : List D} (hs : Slots K C (q :: S) A H σ Γ) (h : At K C S q A0 H0 A H Δ acc) {R : D → Store → Prop} (p : zi1 Γ Δ fun items Δ' => compZ zg1 zt1 ze (wipeZ Γ vs1) R items acc Δ') {Nx : Hp → Prop}
    (hd : ∀ A' H' Δ' acc', At K C S q A0 H0 A' H' Δ' acc' → R (.lst acc') Δ' → Nx H') :
    wi1 σ H fun J1 H4 => ∃ W1 : Nat → Nat → Hp → Prop, (∃ m, W1 0 m H4) ∧ ∀ j k H, W1 j k H → (J1.stop j H ∧ Nx H) ∨ (J1.go j H ∧ ∃ Nx1 : Hp → Prop, (∀ H', Nx1 H' → ∃ k', k' < k ∧ W1 (j + 1) k' H') ∧ ∀ x H', J1.yld j H x H' → g1 x (wipe σ vs1) H' fun σ3 H5 => wipe σ3 vs1 = wipe σ vs1 ∧ tt1 σ3 H5 fun b H6 =>
      if b = true then te σ3 H6 fun y H7 => ∃ acc, H7 q = some (.lst acc) ∧ acc.length < sizeLine ∧ Nx1 (upd H7 q (.lst (acc ++ [y]))) else Nx1 H6) := by
  refine hi (q :: S) A σ H Γ Δ _ _ hs h.cells p fun J n G Y items A1 H1 Δ1 e1 c1 p1 hn w hG hY => ?_
  have h1 := h.ext e1 c1
  have s1 := hs.ext e1
  refine ⟨fun j k H2 => k = n - j ∧ j ≤ n ∧ ∃ A2 Δ2 acc2, At K C S q A0 H0 A2 H2 Δ2 acc2 ∧ At K C S q A1 H1 A2 H2 Δ2 acc2 ∧ compZ zg1 zt1 ze (wipeZ Γ vs1) R (items.drop j) acc2 Δ2, ⟨n, by simp, Nat.zero_le _, A1, Δ1, acc, h1, .here c1 h1.lst, p1⟩, ?_⟩
  rintro j k H2 ⟨rfl, hj, A2, Δ2, acc2, a0, a1, p2⟩
  have gg := hG (q :: S) A2 H2 a1.mo
  by_cases hlt : j < n
  · refine .inr ⟨w.goes j H2 hlt gg, fun H' => ∃ A2 Δ2 acc2, At K C S q A0 H0 A2 H' Δ2 acc2 ∧ At K C S q A1 H1 A2 H' Δ2 acc2 ∧ compZ zg1 zt1 ze (wipeZ Γ vs1) R (items.drop (j + 1)) acc2 Δ2, fun H' p' => ⟨n - (j + 1), by omega, rfl, hlt, p'⟩, fun x H3 y => ?_⟩
    obtain ⟨d, q1, q2, q3⟩ := hY (q :: S) A2 H2 Δ2 j x H3 hlt a1.mo a0.cells (w.yields j H2 x H3 hlt gg y)
    rw [drop_cons q1] at p2
    have e3 : Ext A2 H2 A2 H3 := Ext.kept q2
    have c3 := a0.cells.kept q2
    have s3 : Slots K C (q :: S) A2 H3 (wipe σ vs1) (wipeZ Γ vs1) := ((s1.mono a1.mo).ext e3).wipe vs1
    have fin : g1 x (wipe σ vs1) H3 fun σ2 H4 => wipe σ2 vs1 = wipe (wipe σ vs1) vs1 ∧ tt1 σ2 H4 fun b H5 =>
        if b = true then te σ2 H5 fun y H6 => ∃ acc, H6 q = some (.lst acc) ∧ acc.length < sizeLine ∧ ∃ A2 Δ2 acc2, At K C S q A0 H0 A2 (upd H6 q (.lst (acc ++ [y]))) Δ2 acc2 ∧ At K C S q A1 H1 A2 (upd H6 q (.lst (acc ++ [y]))) Δ2 acc2 ∧ compZ zg1 zt1 ze (wipeZ Γ vs1) R (items.drop (j + 1)) acc2 Δ2
        else ∃ A2 Δ2 acc2, At K C S q A0 H0 A2 H5 Δ2 acc2 ∧ At K C S q A1 H1 A2 H5 Δ2 acc2 ∧ compZ zg1 zt1 ze (wipeZ Γ vs1) R (items.drop (j + 1)) acc2 Δ2 := by
      refine ho _ _ _ _ (hg (q :: S) A2 (wipe σ vs1) H3 (wipeZ Γ vs1) Δ2 x d _ _ s3 c3 q3 p2 fun σ4 A4 H4 Γ4 Δ4 e4 s4 c4 p4 => ?_)
      refine ht (q :: S) A4 σ4 H4 Γ4 Δ4 _ _ s4 c4 p4 fun b A5 H5 Δ5 e5 c5 p5 => ?_
      have b0 := ((a0.ext e3 c3).ext e4 c4).ext e5 c5
      have b1 := ((a1.ext e3 c3).ext e4 c4).ext e5 c5
      cases b with
      | false => exact iteF ⟨A5, Δ5, acc2, b0, b1, p5.2 rfl⟩
      | true =>
        refine iteT (he (q :: S) A5 σ4 H5 Γ4 Δ5 _ _ (s4.ext e5) c5 (p5.1 rfl) fun y dy A6 H6 Δ6 e6 c6 r6 p6 => ?_)
        have d0 := b0.ext e6 c6
        have d1 := b1.ext e6 c6
        obtain ⟨accV, l1, l2⟩ := d0.lst
        exact ⟨accV, l1, lt_line (by rw [l2.length]; exact p6.1), A6, Δ6, acc2 ++ [dy], d0.grow l1 l2 r6, d1.grow l1 l2 r6, p6.2⟩
    rw [wipe_wipe] at fin
    exact fin
  · have e : j = n := by omega
    subst e
    rw [hn, List.drop_length] at p2
    exact .inl ⟨w.stops H2 gg, hd A2 H2 Δ2 acc2 a0 p2⟩
theorem ref_lc2 {wi wi1 : TI} {g g1 : TG} {tt tt1 : TT} {te : TE} {vs vs1 : List Nat} {zi zi1 : ZI} {zg zg1 : ZG} {zt zt1 : ZT} {ze : ZE} (hi : RefI K C wi zi) (hg : RefG K C g zg) (ho : Own g vs) (ht : RefT K C tt zt) (hi1 : RefI K C wi1 zi1) (hg1 : RefG K C g1 zg1) (ho1 : Own g1 vs1) (ht1 : RefT K C tt1 zt1) (he : RefE K C te ze) :
    RefE K C (tLc2 wi g tt wi1 g1 tt1 te vs vs1) (zLc2 zi zg zt zi1 zg1 zt1 ze vs vs1) := fun S A σ H Γ Δ P Q hs hc hz k => hi S A σ H Γ Δ _ _ hs hc hz fun J n G Y items A1 H1 Δ1 e1 c1 p hn w hG hY q hq => by
  have s1 := hs.ext e1
  have mo0 : Mo S A1 H1 (q :: S) A1 (upd H1 q (.lst [])) := ⟨⟨[], by simp, by simp⟩, fun b hb => by
    rcases List.mem_cons.mp hb with rfl | hb
    · exact .inr hq
    · exact .inl hb, fun a o _ _ h => by rw [upd_ne (ne_of_none h hq)]; exact h⟩
  have cells0 : Cells K C (q :: S) A1 (upd H1 q (.lst [])) Δ1 := by
    refine ⟨c1.len, c1.nd, fun a ha hb => ?_, fun a ha h => ?_, fun n a o h1 h2 => (c1.at_ n a o h1 h2).mono mo0 fun u h => by rw [upd_ne (ne_of_none h hq)]; exact h⟩
    · rcases List.mem_cons.mp hb with rfl | hb
      · exact c1.fresh hq ha
      · exact c1.dj a ha hb
    · rcases List.mem_cons.mp ha with rfl | ha
      · rw [upd_same] at h; cases h
      · exact c1.as a ha ((Ext.new (A := A1) hq).trk a h)
  have mo2 : ∀ {A2 : List Addr} {H2 : Hp} {Δ2 : Store} {acc : List D}, At K C S q A1 (upd H1 q (.lst [])) A2 H2 Δ2 acc → Mo S A1 H1 (q :: S) A2 H2 := fun {A2 H2 Δ2 acc} a => by
    obtain ⟨B, hB, nB⟩ := a.mo.pre
    refine ⟨⟨B, hB, fun b hb => (Ext.new (A := A1) hq).trk b (nB b hb)⟩, mo0.sub, fun x o h1 h2 h3 => ?_⟩
    have hx := ne_of_none h3 hq
    exact a.kp x o h1 hx (by rw [upd_ne hx]; exact h3)
  have ext2 : ∀ {A2 : List Addr} {H2 : Hp} {Δ2 : Store} {acc : List D}, At K C S q A1 (upd H1 q (.lst [])) A2 H2 Δ2 acc → Ext A1 H1 A2 H2 := fun {A2 H2 Δ2 acc} a => by
    obtain ⟨B, hB, nB⟩ := a.mo.pre
    refine ⟨⟨B, hB, fun b hb => (Ext.new (A := A1) hq).trk b (nB b hb)⟩, fun x o h1 h3 => ?_, fun x h => (Ext.new (A := A1) hq).trk x (a.trk x h)⟩
    have hx := ne_of_none h3 hq
    exact a.kp x o h1 hx (by rw [upd_ne hx]; exact h3)
  refine ⟨fun i m H2 => m = n - i ∧ i ≤ n ∧ ∃ A2 Δ2 acc, At K C S q A1 (upd H1 q (.lst [])) A2 H2 Δ2 acc ∧ comp2Z zg zt zi1 zg1 zt1 ze vs1 (wipeZ Γ vs) P (items.drop i) acc Δ2, ⟨n, by simp, Nat.zero_le _, A1, Δ1, [], .here cells0 ⟨[], upd_same, .nil⟩, p⟩, ?_⟩
  rintro i m H2 ⟨rfl, hin, A2, Δ2, acc, a0, p2⟩
  have gg := hG (q :: S) A2 H2 (mo2 a0)
  by_cases hlt : i < n
  · refine .inr ⟨w.goes i H2 hlt gg, fun H' => ∃ A2 Δ2 acc, At K C S q A1 (upd H1 q (.lst [])) A2 H' Δ2 acc ∧ comp2Z zg zt zi1 zg1 zt1 ze vs1 (wipeZ Γ vs) P (items.drop (i + 1)) acc Δ2, fun H' p' => ⟨n - (i + 1), by omega, rfl, hlt, p'⟩, fun x H3 y => ?_⟩
    obtain ⟨d, q1, q2, q3⟩ := hY (q :: S) A2 H2 Δ2 i x H3 hlt (mo2 a0) a0.cells (w.yields i H2 x H3 hlt gg y)
    rw [drop_cons q1] at p2
    have e3 : Ext A2 H2 A2 H3 := Ext.kept q2
    have c3 := a0.cells.kept q2
    have s3 : Slots K C (q :: S) A2 H3 (wipe σ vs) (wipeZ Γ vs) := ((s1.mono (mo2 a0)).ext e3).wipe vs
    have h5 := hg (q :: S) A2 (wipe σ vs) H3 (wipeZ Γ vs) Δ2 x d _ (fun σ4 H4 => tt σ4 H4 fun b H5 => if b = true then wi1 σ4 H5 fun J1 H4 => ∃ W1 : Nat → Nat → Hp → Prop, (∃ m, W1 0 m H4) ∧ ∀ j k H, W1 j k H → (J1.stop j H ∧ ∃ A2 Δ2 acc, At K C S q A1 (upd H1 q (.lst [])) A2 H Δ2 acc ∧ comp2Z zg zt zi1 zg1 zt1 ze vs1 (wipeZ Γ vs) P (items.drop (i + 1)) acc Δ2) ∨ (J1.go j H ∧ ∃ Nx1 : Hp → Prop, (∀ H', Nx1 H' → ∃ k', k' < k ∧ W1 (j + 1) k' H') ∧ ∀ x H', J1.yld j H x H' → g1 x (wipe σ4 vs1) H' fun σ3 H5 => wipe σ3 vs1 = wipe σ4 vs1 ∧ tt1 σ3 H5 fun b H6 =>
      if b = true then te σ3 H6 fun y H7 => ∃ acc, H7 q = some (.lst acc) ∧ acc.length < sizeLine ∧ Nx1 (upd H7 q (.lst (acc ++ [y]))) else Nx1 H6) else ∃ A2 Δ2 acc, At K C S q A1 (upd H1 q (.lst [])) A2 H5 Δ2 acc ∧ comp2Z zg zt zi1 zg1 zt1 ze vs1 (wipeZ Γ vs) P (items.drop (i + 1)) acc Δ2) s3 c3 q3 p2 fun σ4 A4 H4 Γ4 Δ4 e4 s4 c4 p4 => by
      refine ht (q :: S) A4 σ4 H4 Γ4 Δ4 _ _ s4 c4 p4 fun b A5 H5 Δ5 e5 c5 p5 => ?_
      have b0 := ((a0.ext e3 c3).ext e4 c4).ext e5 c5
      cases b with
      | false => exact iteF ⟨A5, Δ5, acc, b0, p5.2 rfl⟩
      | true => exact iteT (lc_in hi1 hg1 ho1 ht1 he (s4.ext e5) b0 (p5.1 rfl) fun A' H' Δ' acc' a' r' => by
          obtain ⟨acc2, e, r'⟩ := r'
          cases e
          exact ⟨A', Δ', acc', a', r'⟩)
    have fin := ho _ _ _ _ h5
    rw [wipe_wipe] at fin
    exact fin
  · have e : i = n := by omega
    subst e
    rw [hn, List.drop_length] at p2
    refine .inl ⟨w.stops H2 gg, ?_⟩
    obtain ⟨accV, l1, l2⟩ := a0.lst
    have c2 := a0.cells
    have hq2 : q ∉ A2 := fun h => c2.dj q h List.mem_cons_self
    have mo8 : Mo (q :: S) A2 H2 S A2 H2 := ⟨⟨[], by simp, by simp⟩, fun b hb => .inl (List.mem_cons_of_mem _ hb), fun _ _ _ _ h => h⟩
    exact k _ _ A2 H2 Δ2 (e1.trans (ext2 a0)) ⟨c2.len, c2.nd, fun a ha hb => c2.dj a ha (List.mem_cons_of_mem _ hb), fun a ha => c2.as a (List.mem_cons_of_mem _ ha), fun n a o h1 h2 => (c2.at_ n a o h1 h2).mono mo8 fun _ h => h⟩
      (.lst l1 hq2 (c1.aside hq) (RepL.mono mo8 _ l2)) p2
end
def upI (K : PySem.W.Frag) (C : CI) (zi : ZI) : TI := fun σ H R => ∃ S A Γ Δ P, Slots K C S A H σ Γ ∧ Cells K C S A H Δ ∧ zi Γ Δ P ∧
  (∀ (J : It) (n : Nat) (G : Hp → Prop) (Y : Nat → Hp → V → Hp → Prop) (items : List D) (A' : List Addr) (H' : Hp) (Δ' : Store), Ext A H A' H' → Cells K C S A' H' Δ' → P items Δ' → n = items.length → Walk J n G Y →
    (∀ S2 A2 H2, Mo S A' H' S2 A2 H2 → G H2) →
    (∀ S2 A2 H2 Δ2 i x H3, i < n → Mo S A' H' S2 A2 H2 → Cells K C S2 A2 H2 Δ2 → Y i H2 x H3 → ∃ d, items[i]? = some d ∧ (∀ a o, H2 a = some o → H3 a = some o) ∧ Rep K C S2 A2 H3 x d) → R J H')
theorem ref_upI {K : PySem.W.Frag} {C : CI} {zi : ZI} : RefI K C (upI K C zi) zi := fun S A σ H Γ Δ P R hs hc hz k => ⟨S, A, Γ, Δ, P, hs, hc, hz, k⟩
theorem IZ.up {C : CI} {X : Cx} {tg iter : Expr} {zi : ZI} (h : IZ C X tg iter zi) : PI X tg iter (upI X.K C zi) := by
  obtain ⟨t, h1, h2⟩ := h.ex
  refine ⟨fun pins s σ H R I q => h1.run pins s σ H R I ?_⟩
  obtain ⟨S, A, Γ, Δ, P, hs, hc, hz, k⟩ := q
  exact h2 S A σ H Γ Δ P R hs hc hz k
section
variable {C : CI} {X : Cx}
/-- [elt for tg in iter if .. for tg1 in iter1 if ..] -/
theorem ez_lc2 {elt tg iter tg1 iter1 : Expr} {ifs ifs1 : List Expr} {scope : Scope} {own : List (Str × Nat)} {vs1 : List Nat} {pos : Pos} {zi zi1 : ZI} {g g1 : TG} {zg zg1 : ZG} {zt zt1 : ZT} {ze : ZE} (hN : X.N.Nodup) (hi : IZ C X tg iter zi) (ok : BlkOk X.N X.env.scope scope own) (ho : Own g (own.map (·.2))) (ho1 : Own g1 vs1) (hv : ∀ i ∈ vs1, i ∈ own.map (·.2))
    (hr : RefG X.K C g zg) (hr1 : RefG X.K C g1 zg1)
    (hg : ∀ (s : Shared) (H : Hp) (Ca : Addr) (cl : List (Str × Addr)) (fp : List Addr), PG (X.blk s H scope (compEnvC scope cl Ca X.env) fp) tg g)
    (ht : ∀ (s : Shared) (H : Hp) (Ca : Addr) (cl : List (Str × Addr)) (fp : List Addr), TsZ C (X.blk s H scope (compEnvC scope cl Ca X.env) fp) ifs zt)
    (hi1 : ∀ (s : Shared) (H : Hp) (Ca : Addr) (cl : List (Str × Addr)) (fp : List Addr), IZ C (X.blk s H scope (compEnvC scope cl Ca X.env) fp) tg1 iter1 zi1)
    (hg1 : ∀ (s : Shared) (H : Hp) (Ca : Addr) (cl : List (Str × Addr)) (fp : List Addr), PG (X.blk s H scope (compEnvC scope cl Ca X.env) fp) tg1 g1)
    (ht1 : ∀ (s : Shared) (H : Hp) (Ca : Addr) (cl : List (Str × Addr)) (fp : List Addr), TsZ C (X.blk s H scope (compEnvC scope cl Ca X.env) fp) ifs1 zt1)
    (he : ∀ (s : Shared) (H : Hp) (Ca : Addr) (cl : List (Str × Addr)) (fp : List Addr), EZ C (X.blk s H scope (compEnvC scope cl Ca X.env) fp) elt ze)
    (hc : X.calm = true := by rfl) (hs : ∀ x, foldedSetIterable iter X.env x = pure x := by intro _; rfl) (hs1 : ∀ env x, foldedSetIterable iter1 env x = pure x := by intro _ _; rfl) :
    EZ C X (.ListComp elt [⟨tg, iter, ifs, 0⟩, ⟨tg1, iter1, ifs1, 0⟩] scope pos) (zLc2 zi zg zt zi1 zg1 zt1 ze (own.map (·.2)) vs1) := by
  obtain ⟨wi, i1, i2⟩ := hi.ex
  exact ⟨_, pe_lc2 hc hN i1 ok hv hg (fun s H Ca cl fp => (ht s H Ca cl fp).up) (fun s H Ca cl fp => (hi1 s H Ca cl fp).up) hg1 (fun s H Ca cl fp => (ht1 s H Ca cl fp).up) (fun s H Ca cl fp => (he s H Ca cl fp).up) hs hs1, ref_lc2 i2 hr ho ref_upT ref_upI hr1 ho1 ref_upT ref_up⟩
end
/-! ### math.lcm of great numbers -/
theorem lcm_lt {x y : Nat} (hx : x < 2 ^ 9000) (hy : y < 2 ^ 9000) : x.lcm y < 2 ^ 18000 := by
  have h : x.lcm y ≤ x * y := by
    unfold Nat.lcm
    exact Nat.div_le_self _ _
  refine Nat.lt_of_le_of_lt h ?_
  have e : 2 ^ 18000 = 2 ^ 9000 * 2 ^ 9000 := by rw [← Nat.pow_add]
  rw [e]
  exact Nat.mul_lt_mul'' hx hy
def rLcm : List V → Hp → VK → Prop := fun vs H Q => ∃ a b : Int, vs = [.int a, .int b] ∧ a.natAbs < 2 ^ 9000 ∧ b.natAbs < 2 ^ 9000 ∧ Q (.int ((Nat.lcm a.natAbs b.natAbs : Nat) : Int)) H
theorem cr_lcm {X : Cx} : CallR X (.builtin "math.lcm") rLcm := by
  intro pins s σ H vs us Q I r h
  obtain ⟨a, b, rfl, ha, hb, q⟩ := h
  obtain ⟨t, u, rfl⟩ := Vals.int2 r
  have p0 : 1 < 2 ^ 9000 := Nat.one_lt_two_pow (by decide)
  have lg : ∀ {n : Nat}, n < 2 ^ 9000 → ¬ n.log2 / 30 + 1 > 450 := fun {n} h => by
    have : n.log2 ≤ 8999 := PySem.W.mg_log (k := 8999) h
    omega
  have m1 : max 1 a.natAbs < 2 ^ 9000 := Nat.max_lt.mpr ⟨p0, ha⟩
  have m2 : max a.natAbs b.natAbs < 2 ^ 9000 := Nat.max_lt.mpr ⟨ha, hb⟩
  have e1 : Nat.lcm 1 a.natAbs = a.natAbs := Nat.lcm_one_left _
  have hsz : ((((Nat.lcm 1 a.natAbs).lcm b.natAbs : Nat) : Int)).natAbs.log2 < bitsLine := by
    rw [e1]
    have : (a.natAbs.lcm b.natAbs).log2 ≤ 17999 := PySem.W.mg_log (k := 17999) (lcm_lt ha hb)
    have e2 : ((a.natAbs.lcm b.natAbs : Nat) : Int).natAbs = a.natAbs.lcm b.natAbs := by omega
    rw [e2, bitsLine_eq]
    omega
  refine call_function_meets PySem.W.MGF.kind_lcm PySem.W.MGF.plain_lcm PySem.W.MGF.entry_lcm (PySem.W.MGF.args_lcm _ _) (PySem.W.mg_run_lcm a t b u (lg m1) (lg m2) hsz).meets ?_
  rw [e1]
  exact ⟨.int _, H, I.tok _, ⟨_, rfl⟩, q⟩
def zLcm : ZRC := fun ds Δ P => ∃ i j : Int, ds = [.int i, .int j] ∧ i.natAbs < 2 ^ 9000 ∧ j.natAbs < 2 ^ 9000 ∧ P (.int (Nat.lcm i.natAbs j.natAbs : Nat)) Δ
theorem cz_lcm {C : CI} {X : Cx} : CallZ C X (.builtin "math.lcm") zLcm := ⟨_, cr_lcm, fun S A H Δ xs ds P Q hc r hz k => by
  obtain ⟨i, j, rfl, hi, hj, q⟩ := hz
  obtain ⟨v, v', rfl, rv, rv'⟩ := two_rep r
  cases rv
  cases rv'
  exact ⟨i, j, rfl, hi, hj, k _ _ A H Δ (Ext.refl _ _) hc (.int _) q⟩⟩
/-! ### sorted({elt for tg in iter if ..}), elt an int: the reading (its rule over the heap is still to be written) -/
def zSrtS (zi : ZI) (zg : ZG) (zt : ZT) (ze : ZE) (vs : List Nat) : ZE := fun Γ Δ P => zLc zi zg zt ze vs Γ Δ fun d Δ1 => ∃ ns : List Int, d = .lst (ns.map D.int) ∧ ∀ ms : List Int, ms.Pairwise (· < ·) → (∀ k, k ∈ ms ↔ k ∈ ns) → P (.lst (ms.map D.int)) Δ1
end Z

/-! Z12: dicts whose keys are ints; sorted of such a dict, of any size; max with a default. -/
namespace Z
open PySem PySem.Spec PyProof.Rows L2
/-! ### max(xs, default=d) of a list that is not empty -/
section
variable {prog : Program} {w : World} {A : Around} {I : Addr} {fp wr : List Addr} {n : Nat} {Pv : Nat → Value → Prop} {St : Nat → Heap → Prop}
abbrev dfl (d : Value) : List (Str × Value) := [(Str.ofString "default", d)]
abbrev best (S : Addr) (vs : Array Value) (c : Nat) : Obj := { cls := .type "list", dict := none, data := .seq vs c, slots := #[] }
theorem mx_turn {R : Result → Shared → Prop} {d : Value} (W : Walks prog w A.in1 I fp wr n Pv St) (bt : Nat → Nat → Bool) (hcmp : CmpOf prog w A.in1 .Gt Pv bt) (B : Addr) (hB : B ∉ fp) :
    ∀ (k j : Nat) (s : Shared) (u : Value) (c : Nat), n = j + 1 + k → St (j + 1) s.heap → Pv (argBest bt j) u → s.heap.get? B = some (best B #[u, u] c) →
    (∀ v h' tk, Pv (argBest bt (n - 1)) v → (∀ b o, b ∉ wr → b ≠ B → s.heap.get? b = some o → h'.get? b = some o) → R (.ok (.ret v)) { s with heap := h', toks := tk }) →
    codeAny (model prog w) A (.builtin "max.loop" ⟨[.ref I, .none, .ref B], dfl d⟩) R s := by
  have hBw : B ∉ wr := fun h => hB (W.sub _ h)
  have nm : (toString "max" ++ toString ".loop" : String) = "max.loop" := by decide
  intro k
  induction k with
  | zero =>
    intro j s u c hk hst hu hS hR; have hin : j + 1 = n := by omega
    refine codeAny_builtin F.entry_max_loop ?_; rw [Around.under_plainId F.plain_max_loop _]
    show wpAny _ A.in1 (seqItems? (.ref B) >>= _) _ _ s; refine wpAny_bind (wpAny_seqItems hS rfl ?_)
    show wpAny _ A.in1 (tryCatch (pyNext (.ref I)) _ >>= _) _ _ s; refine wpAny_bind (wpAny_tryCatch (W.done s _ _ (hin ▸ hst) fun h' tk hk' => ?_))
    have hS' := hk' B _ hBw hS; show wpAny _ A.in1 (updateSeq B (fun _ => #[]) >>= _) _ _ _
    refine wpAny_bind (wpAny_updateSeq hS' rfl (wpAny_bind (wpAny_letGo (wpAny_pure ?_))))
    exact hR u _ tk (by rw [← hin]; exact hu) fun b o hbw hbB e => (Heap.get?_update_other _ _ (Ne.symm hbB)).trans (hk' b o hbw e)
  | succ k ih =>
    intro j s u c hk hst hu hS hR; have hlt : j + 1 < n := by omega
    refine codeAny_builtin F.entry_max_loop ?_; rw [Around.under_plainId F.plain_max_loop _]
    show wpAny _ A.in1 (seqItems? (.ref B) >>= _) _ _ s; refine wpAny_bind (wpAny_seqItems hS rfl ?_)
    show wpAny _ A.in1 (tryCatch (pyNext (.ref I)) _ >>= _) _ _ s; refine wpAny_bind (wpAny_tryCatch (W.item (j + 1) s _ _ hlt hst fun v h' tk hv hst' hk' => ?_))
    have hS' := hk' B _ hBw hS; show wpAny _ A.in1 (tryCatch (holding [v, v] (richCompare .Gt v u >>= _)) _ >>= _) _ _ _
    refine wpAny_bind (wpAny_tryCatch (wpAny_holding (wpAny_bind (hcmp (j + 1) (argBest bt j) v u _ _ _ hv hu ?_)))); refine wpAny_bind (wpAny_holding (wpAny_truthy_bool ?_)); refine wpAny_bind (wpAny_letGo (wpAny_pure ?_))
    cases hb : bt (j + 1) (argBest bt j) with
    | true =>
      simp only [if_true]
      refine wpAny_bind (wpAny_updateSeq hS' rfl (wpAny_bind (wpAny_letGo ?_)))
      rw [nm]
      refine wpAny_pure ⟨plainId_quiet F.plain_max_loop _, ih (j + 1) _ v _ (by omega) (W.frame _ _ _ hst' fun b hbf o e => (Heap.get?_update_other _ _ (fun h : B = b => hB (by rw [h]; exact hbf))).trans e) (by simp only [argBest, hb, if_true]; exact hv) (Heap.get?_update_self _ hS' rfl)
        fun v' h2 tk2 hv' hk2 => hR v' h2 tk2 hv' fun b o hbw hbB e => hk2 b o hbw hbB ((Heap.get?_update_other _ _ (Ne.symm hbB)).trans (hk' b o hbw e))⟩
    | false =>
      simp only [Bool.false_eq_true, if_false]
      refine wpAny_bind (wpAny_letGo ?_)
      rw [nm]
      exact wpAny_pure ⟨plainId_quiet F.plain_max_loop _, ih (j + 1) _ u c (by omega) hst' (by simp only [argBest, hb, Bool.false_eq_true, if_false]; exact hu) hS' fun v' h2 tk2 hv' hk2 =>
        hR v' h2 tk2 hv' fun b o hbw hbB e => hk2 b o hbw hbB (hk' b o hbw e)⟩
theorem mx_first {R : Result → Shared → Prop} {d : Value} (W : Walks prog w A.in1 I fp wr n Pv St) (bt : Nat → Nat → Bool) (hcmp : CmpOf prog w A.in1 .Gt Pv bt) (B : Addr) (hB : B ∉ fp) (hn : 0 < n) {s : Shared} {c : Nat} (hst : St 0 s.heap) (hS : s.heap.get? B = some (best B #[] c))
    (hR : ∀ v h' tk, Pv (argBest bt (n - 1)) v → (∀ b o, b ∉ wr → b ≠ B → s.heap.get? b = some o → h'.get? b = some o) → R (.ok (.ret v)) { s with heap := h', toks := tk }) :
    codeAny (model prog w) A (.builtin "max.loop" ⟨[.ref I, .none, .ref B], dfl d⟩) R s := by
  have hBw : B ∉ wr := fun h => hB (W.sub _ h)
  have nm : (toString "max" ++ toString ".loop" : String) = "max.loop" := by decide
  refine codeAny_builtin F.entry_max_loop ?_; rw [Around.under_plainId F.plain_max_loop _]
  show wpAny _ A.in1 (seqItems? (.ref B) >>= _) _ _ s; refine wpAny_bind (wpAny_seqItems hS rfl ?_)
  show wpAny _ A.in1 (tryCatch (pyNext (.ref I)) _ >>= _) _ _ s; refine wpAny_bind (wpAny_tryCatch (W.item 0 s _ _ hn hst fun v h' tk hv hst' hk' => ?_))
  have hS' := hk' B _ hBw hS; show wpAny _ A.in1 (updateSeq B (fun _ => #[v, v]) >>= _) _ _ _
  refine wpAny_bind (wpAny_updateSeq hS' rfl ?_)
  rw [nm]
  exact wpAny_pure ⟨plainId_quiet F.plain_max_loop _, mx_turn W bt hcmp B hB (n - 1) 0 _ v _ (by omega) (W.frame _ _ _ hst' fun b hbf o e => (Heap.get?_update_other _ _ (fun h : B = b => hB (by rw [h]; exact hbf))).trans e) hv (Heap.get?_update_self _ hS' rfl) fun v' h2 tk2 hv' hk2 =>
    hR v' h2 tk2 hv' fun b o hbw hbB e => hk2 b o hbw hbB ((Heap.get?_update_other _ _ (Ne.symm hbB)).trans (hk' b o hbw e))⟩
end
theorem args_maxD (a d : Value) : argsOk "max" ⟨[a], dfl d⟩ := by unfold argsOk; kernel_rfl
section
variable {prog : Program} {w : World} {A : Around} {E : Value → Shared → Prop} {s : Shared}
/-- what the walk of max's argument has to give -/
def MxIt (prog : Program) (w : World) (A : Around) (Q : Value → Shared → Prop) : Value → Shared → Prop := fun it s2 =>
  ∃ (I : Addr) (fp wr : List Addr) (n : Nat) (Pv : Nat → Value → Prop) (St : Nat → Heap → Prop) (bt : Nat → Nat → Bool), it = .ref I ∧ Walks prog w A.in1 I fp wr n Pv St ∧ St 0 s2.heap ∧ (∀ b ∈ fp, b < s2.heap.objs.size) ∧ 0 < n ∧
    CmpOf prog w A.in1 .Gt Pv bt ∧ ∀ v h' tk, Pv (argBest bt (n - 1)) v → (∀ b o, b ∉ wr → s2.heap.get? b = some o → h'.get? b = some o) → Q v { s2 with heap := h', toks := tk }
theorem call_treeK {id : String} {b : Builtin} {args : List Value} {kw : List (Str × Value)} {Q : Value → Shared → Prop} (hk : builtinKind id = none) (hp : plainId id = true) (hb : entryFor table id = some b) (ha : argsOk id ⟨args, kw⟩)
    (hc : wpAny (model prog w) A.in1 (b ⟨args, kw⟩) (fun fin s' => match fin with | .done f => (match (Except.ok f : Result) with | .ok (.ret v) => Q v s' | .ok _ => False | .error e => E e s') | .again c' => c'.quiet = true ∧ codeAny (model prog w) A c' (fun r s' => match r with | .ok (.ret v) => Q v s' | .ok _ => False | .error e => E e s') s') E s) :
    wpAny (model prog w) A (call (.builtin id) args kw) Q E s := by
  refine wpAny_call (codeAny_call_builtin hp hb ?_); simp only [checkBuiltinCall, hk]
  cases hsig : Manifest.signature? id with
  | none => exact wpAny_pure hc
  | some sig =>
    have h2 : Bind.checkArgs id sig ⟨args, kw⟩ = pure () := by simpa only [argsOk, hsig] using ha
    simp only [h2]; exact wpAny_pure hc
theorem mx_walk {x d : Value} {Q : Value → Shared → Prop} (h : wpAny (model prog w) A.in1 (pyIter x) (MxIt prog w A Q) E s) : wpAny (model prog w) A (call (.builtin "max") [x] (dfl d)) Q E s := by
  have nm : (toString "max" ++ toString ".loop" : String) = "max.loop" := by decide
  refine call_treeK F.kind_max F.plain_max F.entry_max (args_maxD _ _) ?_
  show wpAny _ A.in1 (Builtin.Builtins.bindParams "max" ["key", "default"] 0 ⟨[], dfl d⟩ >>= _) _ _ s
  refine wpAny_bind (wpAny_of_eq (show Builtin.Builtins.bindParams "max" ["key", "default"] 0 ⟨[], dfl d⟩ = pure [none, some d] from rfl) (wpAny_bind (wpAny_pure (wpAny_bind (wpAny_mono h (fun it s₂ h₂ => ?_) fun _ _ e => e)))))
  obtain ⟨I, fp, wr, n, Pv, St, bt, rfl, W, hst, hfp, hn, hcmp, hQ⟩ := h₂
  refine wpAny_bind (wpAny_newObj_type ?_)
  have hB : s₂.heap.objs.size ∉ fp := fun hm => Nat.lt_irrefl _ (hfp _ hm); rw [nm]
  refine wpAny_pure ⟨plainId_quiet F.plain_max_loop _, mx_first W bt hcmp s₂.heap.objs.size hB hn (W.frame _ _ _ hst fun b _ o e => Heap.get?_push_of_some _ e) (Heap.get?_push_size _ rfl) fun v h' tk hv hk => ?_⟩
  exact hQ v h' tk hv fun b o hbw e => hk b o hbw (Nat.ne_of_lt (Heap.lt_size e)) (Heap.get?_push_of_some _ e)
theorem mx_list {l : Addr} {its : List Value} {ns : List Int} {d : Value} {Q : Value → Shared → Prop} (hh : A.handled = none) (hl : s.heap.IsList l its.toArray) (hi : IntsAre its ns) (hne : 0 < ns.length)
    (h : ∀ h' tk M t', (∀ b o, s.heap.get? b = some o → h'.get? b = some o) → M ∈ ns → (∀ a, a ∈ ns → a ≤ M) → Q (.int M t') { s with heap := h', toks := tk }) : wpAny (model prog w) A (call (.builtin "max") [.ref l] (dfl d)) Q E s := by
  obtain ⟨xs, e⟩ := hi.allInts.items; have hn : numsOf (intItems xs).toList = ns := by rw [← e]; exact hi.numsOf
  rw [nums_intItems] at hn; subst hn; rw [e] at hl
  have hsz : 0 < xs.size := by simpa using hne
  refine mx_walk (iter_intList hl fun s₂ e st hfp hlI => ?_); subst e
  refine ⟨_, _, _, _, _, _, _, rfl, Walks.list (A := A.in1) hh _ l hlI (intItems xs), st, hfp, by simpa [intItems] using hsz, CmpOf.ints_gt (numAt xs) (fun _ _ => intItems_at), fun v h' tk hP hk => ?_⟩
  have hv : (intItems xs)[argBest (fun i j => decide (numAt xs i > numAt xs j)) (xs.size - 1)]? = some v := by simpa [intItems] using hP
  obtain ⟨t, rfl⟩ := intItems_at hv
  obtain ⟨h1, h2⟩ := argBest_gt (numAt xs) (xs.size - 1)
  refine h h' tk _ t (old_kept hk) ?_ fun a ha => ?_
  · rw [numAt_eq]; exact PySem.getD_mem (by rw [List.length_map, Array.length_toList]; omega)
  · obtain ⟨j, hj, rfl⟩ := mem_getD ha; rw [List.length_map, Array.length_toList] at hj; rw [← numAt_eq]; exact h2 j (by omega)
end
section
variable {C : CI} {X : Cx}
def rMaxD (K : PySem.W.Frag) : List V → List V → Hp → VK → Prop := fun vs zs H Q => ∃ (a : Addr) (ns : List Int) (d : V), vs = [V.ref a] ∧ zs = [d] ∧ SqL K H a (ns.map V.int) ∧ 0 < ns.length ∧ ∀ m, m ∈ ns → (∀ y, y ∈ ns → y ≤ m) → Q (.int m) H
theorem ck_max (hc : X.calm = true) : CallRK X (.builtin "max") [Str.ofString "default"] (rMaxD X.K) := by
  intro pins s σ H vs zs us ws Q I r rz h
  obtain ⟨a, ns, d, rfl, rfl, hs, hne, q⟩ := h
  obtain ⟨its, rv, hl, _⟩ := I.list hs
  rw [Vals.ref1 r]; obtain ⟨w, rfl, _⟩ := vals1 rz
  exact mx_list (I.ok.hd hc) hl.isList rv.ints hne fun h' tk m t' hk h1 h2 => ⟨.int _, H, I.kept hk, ⟨_, rfl⟩, q m h1 h2⟩
/-- max(xs, default=d), xs with an item -/
def zMaxD (za zk : ZA) : ZE := fun Γ Δ P => za Γ Δ fun ds Δ1 => zk Γ Δ1 fun es Δ2 => ∃ (x d : D) (ns : List Int), ds = [x] ∧ es = [d] ∧ lstD Δ2 x = some (ns.map D.int) ∧ ns ≠ [] ∧ ∀ m, m ∈ ns → (∀ y, y ∈ ns → y ≤ m) → P (.int m) Δ2
theorem ez_maxD {x : Str} {p pos : Pos} {e : Expr} {es : List Expr} {kws : List Keyword} {za zk : ZA} (hm : X.mg x = none) (hv : bootBuiltins x = some (.builtin "max")) (ha : AZ C X (e :: es) za) (hk : KZ C X kws zk) (hc : X.calm = true := by rfl) (hg : Gl X x := by rfl) (hn : x ≠ "__name__" := by decide) (hdb : (x == ("__debug__" : Str)) = false := by decide)
    (he : backTo pos (starEach (e :: es) X.env) = (false, eval e X.env) :: backTo pos (starEach es X.env) := by rfl) (hpl : (backTo pos (starEach (e :: es) X.env)).any (·.1) = false := by rfl)
    (hall : (backToKw pos (keywordEach kws X.env)).all (·.1.isSome) = true := by rfl) (hnone : (backToKw pos (keywordEach kws X.env)).any (·.1.isNone) = false := by rfl) (hks : (backToKw pos (keywordEach kws X.env)).filterMap (·.1) = [Str.ofString "default"] := by rfl) :
    EZ C X (.Call (.Name x p) (e :: es) kws pos) (zMaxD za zk) := by
  obtain ⟨t, a1, a2⟩ := ha.ex
  obtain ⟨u, k1, k2⟩ := hk.ex
  refine ⟨_, pe_callBK (ck_max hc) hg hm hv a1 k1 hn hdb he hpl hall hnone hks, fun S A σ H Γ Δ P Q hs hc hz k => ?_⟩
  refine a2 S A σ H Γ Δ _ _ hs hc hz fun vs ds A1 H1 Δ1 e1 c1 r1 hz1 => k2 S A1 σ H1 Γ Δ1 _ _ (hs.ext e1) c1 hz1 fun zs es A2 H2 Δ2 e2 c2 r2 hz2 => ?_
  obtain ⟨x, d, ns, rfl, rfl, hl, hne, q⟩ := hz2
  obtain ⟨v, rfl, rv⟩ := one_rep (r1.ext e2)
  obtain ⟨w, rfl, rw'⟩ := one_rep r2
  obtain ⟨pa, ys, rfl, hq, rr⟩ := Rep.lst_ c2 rv hl
  obtain rfl := repL_int rr
  exact ⟨pa, ns, w, rfl, rfl, SqL.of hq, List.length_pos_iff.mpr hne, fun m h1 h2 => k _ _ A2 H2 Δ2 (e1.trans e2) c2 (.int _) (q m h1 h2)⟩
end
/-! ### a dict whose keys are ints, while it is made -/
def putI (k : Int) (v : D) (l : List (Int × D)) : List (Int × D) := if (l.any fun p => decide (p.1 = k)) = true then l.map (fun p => if p.1 = k then (p.1, v) else p) else l ++ [(k, v)]
def dctP (l : List (Int × D)) : D := .dct (l.map (·.1)) (l.map (·.2))
section
variable (K : PySem.W.Frag) (C : CI) (S A : List Addr) (H : Hp)
inductive RepP : List (Key × V) → List (Int × D) → Prop where
  | nil : RepP [] []
  | cons {k : Int} {v : V} {vs : List (Key × V)} {d : D} {ds : List (Int × D)} (h : Rep K C S A H v d) (r : RepP vs ds) : RepP ((Sum.inl k, v) :: vs) ((k, d) :: ds)
end
section
variable {K : PySem.W.Frag} {C : CI} {S S' A A' : List Addr} {H H' : Hp}
theorem RepP.mono (m : Mo S A H S' A' H') : ∀ {vs : List (Key × V)} {ds : List (Int × D)}, RepP K C S A H vs ds → RepP K C S' A' H' vs ds
  | _, _, .nil => .nil
  | _, _, .cons h r => .cons (Rep.mono m _ h) (RepP.mono m r)
theorem RepP.length : ∀ {vs : List (Key × V)} {ds : List (Int × D)}, RepP K C S A H vs ds → vs.length = ds.length
  | _, _, .nil => rfl
  | _, _, .cons _ r => congrArg (· + 1) (RepP.length r)
theorem RepP.any {k : Int} : ∀ {vs : List (Key × V)} {ds : List (Int × D)}, RepP K C S A H vs ds → (vs.any fun p => decide (p.1 = Sum.inl k)) = ds.any fun p => decide (p.1 = k)
  | _, _, .nil => rfl
  | _, _, .cons (k := j) h r => by
    rw [List.any_cons, List.any_cons, RepP.any r]
    by_cases e : j = k
    · subst e; simp
    · have e' : ¬ (Sum.inl j : Key) = Sum.inl k := fun q => e (Sum.inl.inj q)
      rw [decide_eq_false e, decide_eq_false e']
theorem RepP.snoc {k : Int} {v : V} {d : D} (h : Rep K C S A H v d) : ∀ {vs : List (Key × V)} {ds : List (Int × D)}, RepP K C S A H vs ds → RepP K C S A H (vs ++ [(Sum.inl k, v)]) (ds ++ [(k, d)])
  | _, _, .nil => .cons h .nil
  | _, _, .cons h' r => .cons h' (RepP.snoc h r)
theorem RepP.over {k : Int} {v : V} {d : D} (h : Rep K C S A H v d) : ∀ {vs : List (Key × V)} {ds : List (Int × D)}, RepP K C S A H vs ds → RepP K C S A H (vs.map fun p => if p.1 = Sum.inl k then (p.1, v) else p) (ds.map fun p => if p.1 = k then (p.1, d) else p)
  | _, _, .nil => .nil
  | _, _, .cons (k := j) h' r => by
    rw [List.map_cons, List.map_cons]
    by_cases e : j = k
    · subst e
      simp only [if_true]
      exact .cons h (RepP.over h r)
    · have e' : ¬ (Sum.inl j : Key) = Sum.inl k := fun q => e (Sum.inl.inj q)
      rw [if_neg e, if_neg e']
      exact .cons h' (RepP.over h r)
theorem RepP.put {k : Int} {v : V} {d : D} {vs : List (Key × V)} {ds : List (Int × D)} (r : RepP K C S A H vs ds) (h : Rep K C S A H v d) : RepP K C S A H (putK vs (Sum.inl k) v) (putI k d ds) := by
  unfold putK putI
  rw [RepP.any r]
  split
  · exact RepP.over h r
  · exact RepP.snoc h r
theorem RepP.zip : ∀ {vs : List (Key × V)} {ds : List (Int × D)}, RepP K C S A H vs ds → vs = ((ds.map (·.1)).map Sum.inl).zip (vs.map (·.2)) ∧ RepL K C S A H (vs.map (·.2)) (ds.map (·.2))
  | _, _, .nil => ⟨rfl, .nil⟩
  | _, _, .cons h r => by
    obtain ⟨h1, h2⟩ := RepP.zip r
    refine ⟨?_, .cons h h2⟩
    rw [List.map_cons, List.map_cons, List.map_cons, List.zip_cons_cons, ← h1]
theorem RepP.of : ∀ {ks : List Int} {xs : List V} {ds : List D}, xs.length = ks.length → RepL K C S A H xs ds → RepP K C S A H ((ks.map Sum.inl).zip xs) (ks.zip ds)
  | [], [], _, _, .nil => .nil
  | k :: ks, x :: xs, _, e, .cons h r => .cons h (RepP.of (by simpa using e) r)
theorem RepP.rep {q : Addr} {vs : List (Key × V)} {ds : List (Int × D)} (h : H q = some (.dK vs)) (hA : q ∉ A) (hS : q ∉ S) (r : RepP K C S A H vs ds) : Rep K C S A H (.ref q) (dctP ds) := by
  obtain ⟨h1, h2⟩ := RepP.zip r
  refine .dct (xs := vs.map (·.2)) (by rw [← h1]; exact h) hA hS ?_ h2
  rw [List.length_map, List.length_map, r.length]
theorem RepP.get {k : Int} {d : D} : ∀ {vs : List (Key × V)} {ds : List (Int × D)}, RepP K C S A H vs ds → ds.lookup k = some d → ∃ v, valV vs (Sum.inl k) = some v ∧ Rep K C S A H v d
  | _, _, .nil, e => by cases e
  | _, _, .cons (k := j) (d := d') (ds := ds) (v := v) h r, e => by
    by_cases q : j = k
    · subst q
      rw [List.lookup_cons_self] at e
      cases e
      exact ⟨v, valV_pos rfl, h⟩
    · rw [List.lookup_cons, show (k == j) = false from by simp; exact fun z => q z.symm] at e
      obtain ⟨w, h1, h2⟩ := RepP.get r e
      exact ⟨w, by rw [valV_neg fun z => q (Sum.inl.inj z)]; exact h1, h2⟩
end
/-! ### {k: v for target in iter if ..} -/
def dcZ (zg : ZG) (zt : ZT) (zk zv : ZE) (Γ0 : Env) (P : D → Store → Prop) : List D → List (Int × D) → Store → Prop
  | [], acc, Δ => P (dctP acc) Δ
  | x :: xs, acc, Δ => zg x Γ0 Δ fun Γ2 Δ2 => zt Γ2 Δ2 fun b Δ3 => (b = true → zk Γ2 Δ3 fun y Δ4 => zv Γ2 Δ4 fun z Δ5 => ∃ k, y = .int k ∧ acc.length < 100000 ∧ dcZ zg zt zk zv Γ0 P xs (putI k z acc) Δ5) ∧ (b = false → dcZ zg zt zk zv Γ0 P xs acc Δ3)
def zDc (zi : ZI) (zg : ZG) (zt : ZT) (zk zv : ZE) (vs : List Nat) : ZE := fun Γ Δ P => zi Γ Δ fun items Δ1 => dcZ zg zt zk zv (wipeZ Γ vs) P items [] Δ1
section
variable {K : PySem.W.Frag} {C : CI} {S : List Addr} {q : Addr}
theorem growD_mo {A : List Addr} {H : Hp} {l : List (Key × V)} : Mo (q :: S) A H (q :: S) A (upd H q (.dK l)) := ⟨⟨[], by simp, by simp⟩, fun _ h => .inl h, fun a o _ h2 h3 => by
  rw [upd_ne (fun h => h2 (by rw [h]; exact List.mem_cons_self))]; exact h3⟩
theorem growD_cells {A : List Addr} {H : Hp} {Δ : Store} {l : List (Key × V)} (c : Cells K C (q :: S) A H Δ) : Cells K C (q :: S) A (upd H q (.dK l)) Δ := by
  have hq : q ∉ A := fun h => c.dj q h List.mem_cons_self
  refine ⟨c.len, c.nd, c.dj, fun a ha h => ?_, fun n a o h1 h2 => (c.at_ n a o h1 h2).mono growD_mo fun u h => ?_⟩
  · by_cases hb : a = q
    · subst hb; rw [upd_same] at h; cases h
    · rw [upd_ne hb] at h; exact c.as a ha h
  · rw [upd_ne (fun hb => hq (by rw [← hb]; exact List.mem_of_getElem? h1))]; exact h
/-- what the new dict at q is, all along -/
structure AtD (K : PySem.W.Frag) (C : CI) (S : List Addr) (q : Addr) (A0 : List Addr) (H0 : Hp) (A : List Addr) (H : Hp) (Δ : Store) (acc : List (Int × D)) : Prop where
  mo : Mo (q :: S) A0 H0 (q :: S) A H
  trk : ∀ a, H a = none → H0 a = none
  kp : ∀ a o, a ∉ A0 → a ≠ q → H0 a = some o → H a = some o
  cells : Cells K C (q :: S) A H Δ
  dct : ∃ accV, H q = some (.dK accV) ∧ RepP K C (q :: S) A H accV acc
theorem AtD.ext {A0 A A' : List Addr} {H0 H H' : Hp} {Δ Δ' : Store} {acc : List (Int × D)} (h : AtD K C S q A0 H0 A H Δ acc) (e : Ext A H A' H') (c : Cells K C (q :: S) A' H' Δ') : AtD K C S q A0 H0 A' H' Δ' acc := by
  obtain ⟨accV, h1, h2⟩ := h.dct
  have hq : q ∉ A := fun z => h.cells.dj q z List.mem_cons_self
  obtain ⟨B, hB, nB⟩ := h.mo.pre
  obtain ⟨B', hB', nB'⟩ := e.pre
  have hin : ∀ a o, a ∈ A → H0 a = some o → a ∈ A0 := fun a o ha ho => by
    rw [hB] at ha
    rcases List.mem_append.mp ha with ha | ha
    · exact ha
    · rw [nB a ha] at ho; cases ho
  refine ⟨⟨⟨B ++ B', by rw [hB', hB, List.append_assoc], fun b hb => ?_⟩, fun _ z => .inl z, fun a o g1 g2 g3 => ?_⟩, fun a z => h.trk a (e.trk a z), fun a o g1 g2 g3 => ?_, c, accV, e.keep q _ hq h1, h2.mono e.mo⟩
  · rcases List.mem_append.mp hb with hb | hb
    · exact nB b hb
    · exact h.trk b (nB' b hb)
  · exact e.keep a o (fun z => g1 (hin a o z g3)) (h.mo.keep a o g1 g2 g3)
  · exact e.keep a o (fun z => g1 (hin a o z g3)) (h.kp a o g1 g2 g3)
theorem AtD.grow {A0 A : List Addr} {H0 H : Hp} {Δ : Store} {acc : List (Int × D)} {accV : List (Key × V)} {y : V} {d : D} {k : Int} (h : AtD K C S q A0 H0 A H Δ acc) (h1 : H q = some (.dK accV)) (h2 : RepP K C (q :: S) A H accV acc) (r : Rep K C (q :: S) A H y d) : AtD K C S q A0 H0 A (upd H q (.dK (putK accV (Sum.inl k) y))) Δ (putI k d acc) := by
  refine ⟨⟨h.mo.pre, fun _ z => .inl z, fun a o g1 g2 g3 => ?_⟩, fun a z => ?_, fun a o g1 g2 g3 => ?_, growD_cells h.cells, _, upd_same, (h2.put r).mono growD_mo⟩
  · rw [upd_ne (fun z => g2 (by rw [z]; exact List.mem_cons_self))]; exact h.mo.keep a o g1 g2 g3
  · by_cases hb : a = q
    · subst hb; rw [upd_same] at z; cases z
    · rw [upd_ne hb] at z; exact h.trk a z
  · rw [upd_ne g2]; exact h.kp a o g1 g2 g3
theorem AtD.here {A : List Addr} {H : Hp} {Δ : Store} {acc : List (Int × D)} (c : Cells K C (q :: S) A H Δ) (l : ∃ accV, H q = some (.dK accV) ∧ RepP K C (q :: S) A H accV acc) : AtD K C S q A H A H Δ acc :=
  ⟨⟨⟨[], by simp, by simp⟩, fun _ z => .inl z, fun _ _ _ _ h => h⟩, fun _ h => h, fun _ _ _ _ h => h, c, l⟩
theorem ref_dc {wi : TI} {g : TG} {tt : TT} {tk tv : TE} {vs : List Nat} {zi : ZI} {zg : ZG} {zt : ZT} {zk zv : ZE} (hi : RefI K C wi zi) (hg : RefG K C g zg) (ho : Own g vs) (ht : RefT K C tt zt) (hk : RefE K C tk zk) (hv : RefE K C tv zv) :
    RefE K C (tDc wi g tt tk tv vs) (zDc zi zg zt zk zv vs) := fun S A σ H Γ Δ P Q hs hc hz k => hi S A σ H Γ Δ _ _ hs hc hz fun J n G Y items A1 H1 Δ1 e1 c1 p hn w hG hY q hq => by
  have s1 := hs.ext e1
  have mo0 : Mo S A1 H1 (q :: S) A1 (upd H1 q (.dK [])) := ⟨⟨[], by simp, by simp⟩, fun b hb => by
    rcases List.mem_cons.mp hb with rfl | hb
    · exact .inr hq
    · exact .inl hb, fun a o _ _ h => by rw [upd_ne (ne_of_none h hq)]; exact h⟩
  have cells0 : Cells K C (q :: S) A1 (upd H1 q (.dK [])) Δ1 := by
    refine ⟨c1.len, c1.nd, fun a ha hb => ?_, fun a ha h => ?_, fun n a o h1 h2 => (c1.at_ n a o h1 h2).mono mo0 fun u h => by rw [upd_ne (ne_of_none h hq)]; exact h⟩
    · rcases List.mem_cons.mp hb with rfl | hb
      · exact c1.fresh hq ha
      · exact c1.dj a ha hb
    · rcases List.mem_cons.mp ha with rfl | ha
      · rw [upd_same] at h; cases h
      · exact c1.as a ha ((Ext.new (A := A1) hq).trk a h)
  have mo2 : ∀ {A2 : List Addr} {H2 : Hp} {Δ2 : Store} {acc : List (Int × D)}, AtD K C S q A1 (upd H1 q (.dK [])) A2 H2 Δ2 acc → Mo S A1 H1 (q :: S) A2 H2 := fun {A2 H2 Δ2 acc} a => by
    obtain ⟨B, hB, nB⟩ := a.mo.pre
    refine ⟨⟨B, hB, fun b hb => (Ext.new (A := A1) hq).trk b (nB b hb)⟩, mo0.sub, fun x o h1 h2 h3 => ?_⟩
    have hx := ne_of_none h3 hq
    exact a.kp x o h1 hx (by rw [upd_ne hx]; exact h3)
  have ext2 : ∀ {A2 : List Addr} {H2 : Hp} {Δ2 : Store} {acc : List (Int × D)}, AtD K C S q A1 (upd H1 q (.dK [])) A2 H2 Δ2 acc → Ext A1 H1 A2 H2 := fun {A2 H2 Δ2 acc} a => by
    obtain ⟨B, hB, nB⟩ := a.mo.pre
    refine ⟨⟨B, hB, fun b hb => (Ext.new (A := A1) hq).trk b (nB b hb)⟩, fun x o h1 h3 => ?_, fun x h => (Ext.new (A := A1) hq).trk x (a.trk x h)⟩
    have hx := ne_of_none h3 hq
    exact a.kp x o h1 hx (by rw [upd_ne hx]; exact h3)
  refine ⟨fun i m H2 => m = n - i ∧ i ≤ n ∧ ∃ A2 Δ2 acc, AtD K C S q A1 (upd H1 q (.dK [])) A2 H2 Δ2 acc ∧ dcZ zg zt zk zv (wipeZ Γ vs) P (items.drop i) acc Δ2, ⟨n, by simp, Nat.zero_le _, A1, Δ1, [], .here cells0 ⟨[], upd_same, .nil⟩, p⟩, ?_⟩
  rintro i m H2 ⟨rfl, hin, A2, Δ2, acc, a0, p2⟩
  have gg := hG (q :: S) A2 H2 (mo2 a0)
  by_cases hlt : i < n
  · refine .inr ⟨w.goes i H2 hlt gg, fun H' => ∃ A2 Δ2 acc, AtD K C S q A1 (upd H1 q (.dK [])) A2 H' Δ2 acc ∧ dcZ zg zt zk zv (wipeZ Γ vs) P (items.drop (i + 1)) acc Δ2, fun H' p' => ⟨n - (i + 1), by omega, rfl, hlt, p'⟩, fun x H3 y => ?_⟩
    obtain ⟨d, q1, q2, q3⟩ := hY (q :: S) A2 H2 Δ2 i x H3 hlt (mo2 a0) a0.cells (w.yields i H2 x H3 hlt gg y)
    rw [drop_cons q1] at p2
    have e3 : Ext A2 H2 A2 H3 := Ext.kept q2
    have c3 := a0.cells.kept q2
    have s3 : Slots K C (q :: S) A2 H3 (wipe σ vs) (wipeZ Γ vs) := ((s1.mono (mo2 a0)).ext e3).wipe vs
    have h5 := hg (q :: S) A2 (wipe σ vs) H3 (wipeZ Γ vs) Δ2 x d _ (fun σ4 H4 => tt σ4 H4 fun b H5 => if b = true then tk σ4 H5 fun y H4 => tv σ4 H4 fun z H5 => ∃ kvs k, y = kV k ∧ H5 q = some (.dK kvs) ∧ kvs.length < sizeLine ∧ ∃ A2 Δ2 acc, AtD K C S q A1 (upd H1 q (.dK [])) A2 (upd H5 q (.dK (putK kvs k z))) Δ2 acc ∧ dcZ zg zt zk zv (wipeZ Γ vs) P (items.drop (i + 1)) acc Δ2
        else ∃ A2 Δ2 acc, AtD K C S q A1 (upd H1 q (.dK [])) A2 H5 Δ2 acc ∧ dcZ zg zt zk zv (wipeZ Γ vs) P (items.drop (i + 1)) acc Δ2) s3 c3 q3 p2 fun σ4 A4 H4 Γ4 Δ4 e4 s4 c4 p4 => by
      refine ht (q :: S) A4 σ4 H4 Γ4 Δ4 _ _ s4 c4 p4 fun b A5 H5 Δ5 e5 c5 p5 => ?_
      have b0 := ((a0.ext e3 c3).ext e4 c4).ext e5 c5
      cases b with
      | false => exact iteF ⟨A5, Δ5, acc, b0, p5.2 rfl⟩
      | true =>
        refine iteT (hk (q :: S) A5 σ4 H5 Γ4 Δ5 _ _ (s4.ext e5) c5 (p5.1 rfl) fun y dy A6 H6 Δ6 e6 c6 r6 p6 => ?_)
        refine hv (q :: S) A6 σ4 H6 Γ4 Δ6 _ _ ((s4.ext e5).ext e6) c6 p6 fun z dz A7 H7 Δ7 e7 c7 r7 p7 => ?_
        have d0 := (b0.ext e6 c6).ext e7 c7
        obtain ⟨j, rfl, hlen, p7⟩ := p7
        cases r6
        obtain ⟨accV, l1, l2⟩ := d0.dct
        exact ⟨accV, Sum.inl j, rfl, l1, lt_line (by rw [l2.length]; exact hlen), A7, Δ7, _, d0.grow l1 l2 r7, p7⟩
    have fin := ho _ _ _ _ h5
    rw [wipe_wipe] at fin
    exact fin
  · have e : i = n := by omega
    subst e
    rw [hn, List.drop_length] at p2
    refine .inl ⟨w.stops H2 gg, ?_⟩
    obtain ⟨accV, l1, l2⟩ := a0.dct
    have c2 := a0.cells
    have hq2 : q ∉ A2 := fun h => c2.dj q h List.mem_cons_self
    have mo8 : Mo (q :: S) A2 H2 S A2 H2 := ⟨⟨[], by simp, by simp⟩, fun b hb => .inl (List.mem_cons_of_mem _ hb), fun _ _ _ _ h => h⟩
    exact k _ _ A2 H2 Δ2 (e1.trans (ext2 a0)) ⟨c2.len, c2.nd, fun a ha hb => c2.dj a ha (List.mem_cons_of_mem _ hb), fun a ha => c2.as a (List.mem_cons_of_mem _ ha), fun n a o h1 h2 => (c2.at_ n a o h1 h2).mono mo8 fun _ h => h⟩
      (RepP.rep l1 hq2 (c1.aside hq) (l2.mono mo8)) p2
end
section
variable {C : CI} {X : Cx}
theorem ez_dc {kx vx tg iter : Expr} {ifs : List Expr} {scope : Scope} {own : List (Str × Nat)} {pos : Pos} {zi : ZI} {g : TG} {zg : ZG} {zt : ZT} {zk zv : ZE} (hN : X.N.Nodup) (hi : IZ C X tg iter zi) (ok : BlkOk X.N X.env.scope scope own) (ho : Own g (own.map (·.2))) (hr : RefG X.K C g zg)
    (hg : ∀ (s : Shared) (H : Hp) (Ca : Addr) (cl : List (Str × Addr)) (fp : List Addr), PG (X.blk s H scope (compEnvC scope cl Ca X.env) fp) tg g)
    (ht : ∀ (s : Shared) (H : Hp) (Ca : Addr) (cl : List (Str × Addr)) (fp : List Addr), TsZ C (X.blk s H scope (compEnvC scope cl Ca X.env) fp) ifs zt)
    (hk : ∀ (s : Shared) (H : Hp) (Ca : Addr) (cl : List (Str × Addr)) (fp : List Addr), EZ C (X.blk s H scope (compEnvC scope cl Ca X.env) fp) kx zk)
    (hv : ∀ (s : Shared) (H : Hp) (Ca : Addr) (cl : List (Str × Addr)) (fp : List Addr), EZ C (X.blk s H scope (compEnvC scope cl Ca X.env) fp) vx zv)
    (hc : X.calm = true := by rfl) (hs : ∀ x, foldedSetIterable iter X.env x = pure x := by intro _; rfl) :
    EZ C X (.DictComp kx vx [⟨tg, iter, ifs, 0⟩] scope pos) (zDc zi zg zt zk zv (own.map (·.2))) := by
  obtain ⟨wi, i1, i2⟩ := hi.ex
  exact ⟨_, pe_dc hc hN i1 ok hg (fun s H Ca cl fp => (ht s H Ca cl fp).up) (fun s H Ca cl fp => (hk s H Ca cl fp).up) (fun s H Ca cl fp => (hv s H Ca cl fp).up) hs, ref_dc i2 hr ho ref_upT ref_up ref_up⟩
/-! ### d[k] of such a dict; sorted(d) -/
/-- what a value is as a dict -/
def dctOf (Δ : Store) : D → Option (List (Int × D))
  | .dct ks ds => some (ks.zip ds)
  | .cell n => match Δ[n]? with
    | some (.dct ks ds) => some (ks.zip ds)
    | _ => none
  | _ => none
theorem Rep.dctOf {K : PySem.W.Frag} {S A : List Addr} {H : Hp} {Δ : Store} {x : V} {d : D} {ds : List (Int × D)} (hc : Cells K C S A H Δ) (r : Rep K C S A H x d) (h : Z.dctOf Δ d = some ds) :
    ∃ p vs, x = .ref p ∧ H p = some (.dK vs) ∧ RepP K C S A H vs ds := by
  cases r with
  | dct h1 hA hS hl r => cases h; exact ⟨_, _, rfl, h1, RepP.of hl r⟩
  | cell h1 =>
    rename_i n
    unfold Z.dctOf at h
    cases q : Δ[n]? with
    | none => simp only [q] at h; cases h
    | some o =>
      cases o with
      | lst _ => simp only [q] at h; cases h
      | ins _ _ => simp only [q] at h; cases h
      | dct ks es =>
        simp only [q] at h
        cases h
        obtain ⟨xs, e1, e2, e3⟩ := hc.at_ n _ _ h1 q
        exact ⟨_, _, rfl, e1, RepP.of e2 e3⟩
  | _ => cases h
def zDGet (za zb : ZE) : ZE := fun Γ Δ P => za Γ Δ fun x Δ1 => zb Γ Δ1 fun y Δ2 => ∃ (ds : List (Int × D)) (k : Int) (d : D), dctOf Δ2 x = some ds ∧ y = .int k ∧ ds.lookup k = some d ∧ P d Δ2
theorem ez_dget {a b : Expr} {pos : Pos} {za zb : ZE} (hu64 : X.A.units + 64 < cLine) (ha : EZ C X a za) (hb : EZ C X b zb) (hp : NoSl b := by first | trivial | exact fun _ _ => rfl | decide) : EZ C X (.Subscript a b pos) (zDGet za zb) := by
  obtain ⟨ta, a1, a2⟩ := ha.ex
  obtain ⟨tb, b1, b2⟩ := hb.ex
  have hu : X.A.units + 1 < cLine := Nat.lt_of_le_of_lt (Nat.add_le_add_left (by decide) _) hu64
  refine ⟨_, pe_dget hu a1 b1 hp, fun S A σ H Γ Δ P Q hs hc hz k => a2 S A σ H Γ Δ _ _ hs hc hz fun x dx A1 H1 Δ1 e1 c1 r1 hz1 => b2 S A1 σ H1 Γ Δ1 _ _ (hs.ext e1) c1 hz1 fun y dy A2 H2 Δ2 e2 c2 r2 hz2 => ?_⟩
  obtain ⟨ds, j, d, h1, rfl, h3, p⟩ := hz2
  obtain ⟨pa, vs, rfl, g1, g2⟩ := Rep.dctOf c2 (r1.ext e2) h1
  obtain ⟨v, w1, w2⟩ := g2.get h3
  cases r2
  refine ⟨pa, v, rfl, ?_, k v d A2 H2 Δ2 (e1.trans e2) c2 w2 p⟩
  have := DGet.k (k := Sum.inl j) g1
  rw [w1] at this
  exact this
/-- sorted(d), keys ints, any number of them -/
def rSortDI : List V → Hp → VK → Prop := fun xs H Q => ∃ (a : Addr) (kvs : List (Key × V)) (ks : List Int), xs = [.ref a] ∧ Rd H a (.dK kvs) ∧ kvs.map (·.1) = ks.map Sum.inl ∧ ∀ (ys : List Int) (p : Addr), ys.Perm ks → ys.Pairwise (· ≤ ·) → H p = none → Q (.ref p) (upd H p (.lst (ys.map V.int)))
theorem cr_sortDI (hcalm : X.calm = true) : CallR X (.builtin "sorted") rSortDI := by
  intro pins s σ H xs us Q I r q
  obtain ⟨a, kvs, ks, rfl, hd, hks, q⟩ := q
  obtain ⟨u, rfl, rx⟩ := vals1 r; cases rx
  obtain ⟨z, lo, vs, rel, dd⟩ := dk_rd I.hok hd; obtain ⟨ep, hat⟩ := dd.dictAt
  have hkeys : vs.map (·.1) = ks.map Sum.inl := rel.keys.symm.trans hks
  have hl : vs.length = ks.length := by
    have e := congrArg List.length hkeys
    simpa using e
  have h16 : vs.length ≤ sizeLine := by rw [← rel.length]; exact z
  refine Calls.call_function_entry kind_sorted plain_sorted entry_sorted (args_sorted1 _) ?_
  unfold Builtin.«sorted»
  refine wpAny_bind (m := checkCount "sorted" 1 1 _) (wpAny_pure (wpAny_bind (PySem.W.kdu_collect (A := X.A.in1) (PySem.W.kdl_dict (knd := mixKind X.prog X.w) (kvs := vs) (ep := ep) lo) (I.ok.hd hcalm) hat h16 fun h' tk acc hk hacc => ?_)))
  have hal : acc.toList.length = ks.length := by rw [Array.length_toList, hacc.1, hl]
  have hS : IntsAre acc.toList ks := ints_each hal fun j v e => by
    obtain ⟨k, x, e1, e2⟩ := hacc.2 j v (by rw [← Array.getElem?_toList]; exact e); have e3 : (vs.map (·.1))[j]? = some k := by rw [List.getElem?_map, e1]; rfl
    rw [hkeys, List.getElem?_map] at e3
    cases e4 : ks[j]? with
    | none => rw [e4] at e3; cases e3
    | some y =>
      rw [e4] at e3; obtain rfl : Sum.inl y = k := Option.some.inj e3
      rcases keyIs_shape (show keyIs (Sum.inl y) v = true from e2) with ⟨i, t, ek, ev⟩ | ⟨z, t, ek, ev⟩
      · cases ek; exact ⟨y, t, rfl, ev⟩
      · cases ek
  have I1 : Inv X pins σ H { s with heap := h', toks := tk } := I.kept hk
  have hz2 : acc.toList.length ≤ sizeLine := by rw [hal, ← hl]; exact h16
  refine wpAny_bind (wpAny_newList ?_ hz2)
  have ho : (h'.push (seqObj "list" acc.toList.toArray 0)).get? h'.objs.size = some (seqObj "list" acc.toList.toArray 0) := Heap.get?_push_size _ rfl
  show wpAny _ _ _ _ _ { s with heap := h'.push (seqObj "list" acc.toList.toArray 0), toks := tk }
  refine wpAny_bind (wpAny_holding (wpAny_call_entry slot_list_sort ⟨_, ho, rfl⟩ entry_list_sort (SrtO.list_sort_ord (s := { s with heap := h'.push (seqObj "list" acc.toList.toArray 0), toks := tk }) SrtO.swo_int ho hz2 (fun h2 => SrtO.ints_sortable hS h2) fun out h1 h2 => ⟨_, rfl, ?_⟩) (args_list_sort _)))
  obtain ⟨k1, k2, k3⟩ := SrtO.ints_out hS h1 h2
  obtain ⟨e', he'⟩ := sortedHeap_at (vs := acc.toList) (out := out.toArray) ho
  have hlen : ((out.map SrtO.iv).map V.int).length ≤ sizeLine := by rw [List.length_map, k2.length_eq, ← hl]; exact h16
  refine wpAny_pure ⟨_, rfl, .ref h'.objs.size, upd H h'.objs.size (.lst ((out.map SrtO.iv).map V.int)), I1.laid (t' := tk) (fun b u e => ?_) (Nat.le_refl _)
    (show ObjOk X.prog X.w _ _ _ (.lst ((out.map SrtO.iv).map V.int)) from ⟨hlen, out, e', vals_of_ints k1, he'⟩), rfl, q _ _ k2 k3 (I1.hok.fresh (Nat.le_refl _))⟩
  have hb : b < h'.objs.size := Heap.lt_size e
  rw [sortedHeap_old (Nat.ne_of_lt hb) (by rw [size_push']; exact Nat.lt_succ_of_lt hb)]
  exact Heap.get?_push_of_some _ e
def zSortD : ZRC := fun ds Δ P => ∃ (x : D) (l : List (Int × D)), ds = [x] ∧ dctOf Δ x = some l ∧ ∀ ys : List Int, ys.Perm (l.map (·.1)) → ys.Pairwise (· ≤ ·) → P (.lst (ys.map D.int)) Δ
theorem RepP.keys {K : PySem.W.Frag} {S A : List Addr} {H : Hp} : ∀ {vs : List (Key × V)} {ds : List (Int × D)}, RepP K C S A H vs ds → vs.map (·.1) = (ds.map (·.1)).map Sum.inl
  | _, _, .nil => rfl
  | _, _, .cons h r => by rw [List.map_cons, List.map_cons, List.map_cons, RepP.keys r]
theorem cz_sortD (hc : X.calm = true := by rfl) : CallZ C X (.builtin "sorted") zSortD := ⟨_, cr_sortDI hc, fun S A H Δ xs ds P Q hc r hz k => by
  obtain ⟨x, l, rfl, hd, q⟩ := hz
  obtain ⟨v, rfl, rv⟩ := one_rep r
  obtain ⟨pa, vs, rfl, g1, g2⟩ := Rep.dctOf hc rv hd
  refine ⟨pa, vs, l.map (·.1), rfl, .inl g1, g2.keys, fun ys p h1 h2 hp => ?_⟩
  have e : Ext A H A (upd H p (.lst (ys.map V.int))) := Ext.new hp
  have hpA : p ∉ A := hc.fresh hp
  refine k _ _ A _ Δ e (hc.kept fun a o h => by rw [upd_ne (ne_of_none h hp)]; exact h) (.lst upd_same hpA (hc.aside hp) (repL_ints ys)) (q ys h1 h2)⟩
end
/-! ### lists and dicts that a comprehension makes, as cells -/
def asCell (P : D → Store → Prop) : D → Store → Prop := fun d Δ => ∃ ds, d = .lst ds ∧ P (.cell Δ.length) (Δ ++ [.lst ds])
def zLcC (zi : ZI) (zg : ZG) (zt : ZT) (ze : ZE) (vs : List Nat) : ZE := fun Γ Δ P => zi Γ Δ fun items Δ1 => compZ zg zt ze (wipeZ Γ vs) (asCell P) items [] Δ1
section
variable {K : PySem.W.Frag} {C : CI} {S A : List Addr} {H : Hp} {q : Addr}
theorem nin_snoc {a : Addr} (h1 : a ∉ A) (h2 : a ∉ q :: S) : a ∉ A ++ [q] := fun h => by
  rcases List.mem_append.mp h with h | h
  · exact h1 h
  · rw [List.mem_singleton] at h
    exact h2 (by rw [h]; exact List.mem_cons_self)
mutual
theorem Rep.unaside : ∀ {v : V} {d : D}, Rep K C (q :: S) A H v d → q ∉ A → q ∉ S → Rep K C S (A ++ [q]) H v d
  | _, .non, h, _, _ => by cases h; exact .non
  | _, .bl b, h, _, _ => by cases h; exact .bl b
  | _, .int i, h, _, _ => by cases h; exact .int i
  | _, .str x, h, _, _ => by cases h; exact .str x
  | _, .ty n, h, _, _ => by cases h; exact .ty n
  | _, .cls c, h, _, _ => by cases h; exact .cls c
  | _, .tup ds, h, h1, h2 => by cases h with | tup h hA hS r => exact .tup h (nin_snoc hA hS) (fun z => hS (List.mem_cons_of_mem _ z)) (RepL.unaside r h1 h2)
  | _, .lst ds, h, h1, h2 => by cases h with | lst h hA hS r => exact .lst h (nin_snoc hA hS) (fun z => hS (List.mem_cons_of_mem _ z)) (RepL.unaside r h1 h2)
  | _, .ins c ds, h, h1, h2 => by cases h with | ins h hA hS hl r => exact .ins h (nin_snoc hA hS) (fun z => hS (List.mem_cons_of_mem _ z)) hl (RepL.unaside r h1 h2)
  | _, .dct ks ds, h, h1, h2 => by cases h with | dct h hA hS hl r => exact .dct h (nin_snoc hA hS) (fun z => hS (List.mem_cons_of_mem _ z)) hl (RepL.unaside r h1 h2)
  | _, .cell n, h, _, _ => by
    cases h with
    | cell h => exact .cell (by rw [List.getElem?_append_left (List.getElem?_eq_some_iff.mp h).1]; exact h)
  | _, .scr ns, h, _, _ => by
    cases h with
    | scr h =>
      rcases h with ⟨h, hA, hS⟩ | h
      · exact .scr (.inl ⟨h, nin_snoc hA hS, fun z => hS (List.mem_cons_of_mem _ z)⟩)
      · exact .scr (.inr h)
theorem RepL.unaside : ∀ {vs : List V} {ds : List D}, RepL K C (q :: S) A H vs ds → q ∉ A → q ∉ S → RepL K C S (A ++ [q]) H vs ds
  | _, [], h, _, _ => by cases h; exact .nil
  | _, d :: ds, h, h1, h2 => by
    cases h with
    | cons h r => exact .cons (Rep.unaside h h1 h2) (RepL.unaside r h1 h2)
end
theorem RepP.unaside : ∀ {vs : List (Key × V)} {ds : List (Int × D)}, RepP K C (q :: S) A H vs ds → q ∉ A → q ∉ S → RepP K C S (A ++ [q]) H vs ds
  | _, _, .nil, _, _ => .nil
  | _, _, .cons h r, h1, h2 => .cons (h.unaside h1 h2) (RepP.unaside r h1 h2)
theorem Cells.unset {Δ : Store} {o : O} (c : Cells K C (q :: S) A H Δ) (hS : q ∉ S) (ho : CellAt K C S (A ++ [q]) H q o) : Cells K C S (A ++ [q]) H (Δ ++ [o]) := by
  have hq : q ∉ A := fun h => c.dj q h List.mem_cons_self
  refine ⟨by rw [List.length_append, List.length_append, c.len] <;> rfl, ?_, fun a ha hb => ?_, fun a ha => c.as a (List.mem_cons_of_mem _ ha), fun n a o' h1 h2 => ?_⟩
  · refine List.nodup_append.mpr ⟨c.nd, by simp, fun a ha b hb e => ?_⟩
    rw [List.mem_singleton] at hb
    subst hb; subst e
    exact hq ha
  · rcases List.mem_append.mp ha with ha | ha
    · exact c.dj a ha (List.mem_cons_of_mem _ hb)
    · rw [List.mem_singleton] at ha
      subst ha
      exact hS hb
  · by_cases hn : n < A.length
    · rw [List.getElem?_append_left hn] at h1
      rw [List.getElem?_append_left (by rw [← c.len]; exact hn)] at h2
      have g := c.at_ n a o' h1 h2
      cases o' with
      | lst ds => obtain ⟨xs, e, r⟩ := g; exact ⟨xs, e, r.unaside hq hS⟩
      | ins k fs => obtain ⟨dx, xs, e, z, r⟩ := g; exact ⟨dx, xs, e, z, r.unaside hq hS⟩
      | dct ks ds => obtain ⟨xs, e, z, r⟩ := g; exact ⟨xs, e, z, r.unaside hq hS⟩
    · have e1 : n = A.length := by
        have := (List.getElem?_eq_some_iff.mp h1).1
        rw [List.length_append] at this
        simp at this
        omega
      subst e1
      rw [List.getElem?_append_right (Nat.le_refl _), Nat.sub_self] at h1
      rw [c.len, List.getElem?_append_right (Nat.le_refl _), Nat.sub_self] at h2
      cases h1; cases h2
      exact ho
theorem Ext.cellIn {A0 A2 : List Addr} {H0 H2 : Hp} (e : Ext A0 H0 A2 H2) (hq : H0 q = none) (hq2 : q ∉ A2) : Ext A0 H0 (A2 ++ [q]) H2 := by
  obtain ⟨B, hB, nB⟩ := e.pre
  refine ⟨⟨B ++ [q], by rw [hB, List.append_assoc], fun b hb => ?_⟩, e.keep, e.trk⟩
  rcases List.mem_append.mp hb with hb | hb
  · exact nB b hb
  · rw [List.mem_singleton] at hb; subst hb; exact hq
end
theorem ref_lcC {K : PySem.W.Frag} {C : CI} {wi : TI} {g : TG} {tt : TT} {te : TE} {vs : List Nat} {zi : ZI} {zg : ZG} {zt : ZT} {ze : ZE} (hi : RefI K C wi zi) (hg : RefG K C g zg) (ho : Own g vs) (ht : RefT K C tt zt) (he : RefE K C te ze) :
    RefE K C (tLc wi g tt te vs) (zLcC zi zg zt ze vs) := fun S A σ H Γ Δ P Q hs hc hz k => hi S A σ H Γ Δ _ _ hs hc hz fun J n G Y items A1 H1 Δ1 e1 c1 p hn w hG hY q hq => by
  have s1 := hs.ext e1
  -- the list at q is set aside
  have mo0 : Mo S A1 H1 (q :: S) A1 (upd H1 q (.lst [])) := ⟨⟨[], by simp, by simp⟩, fun b hb => by
    rcases List.mem_cons.mp hb with rfl | hb
    · exact .inr hq
    · exact .inl hb, fun a o _ _ h => by rw [upd_ne (ne_of_none h hq)]; exact h⟩
  have cells0 : Cells K C (q :: S) A1 (upd H1 q (.lst [])) Δ1 := by
    refine ⟨c1.len, c1.nd, fun a ha hb => ?_, fun a ha h => ?_, fun n a o h1 h2 => (c1.at_ n a o h1 h2).mono mo0 fun u h => by rw [upd_ne (ne_of_none h hq)]; exact h⟩
    · rcases List.mem_cons.mp hb with rfl | hb
      · exact c1.fresh hq ha
      · exact c1.dj a ha hb
    · rcases List.mem_cons.mp ha with rfl | ha
      · rw [upd_same] at h; cases h
      · exact c1.as a ha ((Ext.new (A := A1) hq).trk a h)
  refine lc_it w (fun i H2 => ∃ A2 Δ2 acc accV, Ext A1 H1 A2 H2 ∧ Mo S A1 H1 (q :: S) A2 H2 ∧ Cells K C (q :: S) A2 H2 Δ2 ∧ H2 q = some (.lst accV) ∧ RepL K C (q :: S) A2 H2 accV acc ∧ compZ zg zt ze (wipeZ Γ vs) (asCell P) (items.drop i) acc Δ2)
    ⟨A1, Δ1, [], [], Ext.new hq, mo0, cells0, upd_same, .nil, p⟩ (fun i H2 _ ⟨A2, Δ2, acc, accV, _, m, _⟩ => hG _ A2 H2 m) ?_ ?_
  · rintro i x H2 H3 hi2 ⟨A2, Δ2, acc, accV, e2, m2, c2, hqv, hacc, hp⟩ y
    obtain ⟨d, q1, q2, q3⟩ := hY _ A2 H2 Δ2 i x H3 hi2 m2 c2 y
    have hd : items.drop i = d :: items.drop (i + 1) := by
      obtain ⟨hl, q⟩ := List.getElem?_eq_some_iff.mp q1
      rw [← q]
      exact List.drop_eq_getElem_cons hl
    rw [hd] at hp
    have e3 : Ext A2 H2 A2 H3 := Ext.kept q2
    have s3 : Slots K C (q :: S) A2 H3 (wipe σ vs) (wipeZ Γ vs) := ((s1.mono m2).ext e3).wipe vs
    have fin : g x (wipe σ vs) H3 fun σ2 H4 => wipe σ2 vs = wipe (wipe σ vs) vs ∧ tt σ2 H4 fun b H5 =>
        if b = true then te σ2 H5 fun y H6 => ∃ acc, H6 q = some (.lst acc) ∧ acc.length < sizeLine ∧ ∃ A2 Δ2 acc' accV, Ext A1 H1 A2 (upd H6 q (.lst (acc ++ [y]))) ∧ Mo S A1 H1 (q :: S) A2 (upd H6 q (.lst (acc ++ [y]))) ∧ Cells K C (q :: S) A2 (upd H6 q (.lst (acc ++ [y]))) Δ2 ∧
          (upd H6 q (.lst (acc ++ [y]))) q = some (.lst accV) ∧ RepL K C (q :: S) A2 (upd H6 q (.lst (acc ++ [y]))) accV acc' ∧ compZ zg zt ze (wipeZ Γ vs) (asCell P) (items.drop (i + 1)) acc' Δ2
        else ∃ A2 Δ2 acc accV, Ext A1 H1 A2 H5 ∧ Mo S A1 H1 (q :: S) A2 H5 ∧ Cells K C (q :: S) A2 H5 Δ2 ∧ H5 q = some (.lst accV) ∧ RepL K C (q :: S) A2 H5 accV acc ∧ compZ zg zt ze (wipeZ Γ vs) (asCell P) (items.drop (i + 1)) acc Δ2 := by
      refine ho _ _ _ _ (hg (q :: S) A2 (wipe σ vs) H3 (wipeZ Γ vs) Δ2 x d _ _ s3 (c2.kept q2) q3 hp fun σ4 A4 H4 Γ4 Δ4 e4 s4 c4 p4 => ?_)
      refine ht (q :: S) A4 σ4 H4 Γ4 Δ4 _ _ s4 c4 p4 fun b A5 H5 Δ5 e5 c5 p5 => ?_
      have e25 := (e3.trans e4).trans e5
      have e15 := e2.trans e25
      have hq2 : q ∉ A2 := fun h => c2.dj q h List.mem_cons_self
      have hq5 : H5 q = some (.lst accV) := e25.keep q _ hq2 hqv
      have m5 : Mo S A1 H1 (q :: S) A5 H5 := ⟨e15.pre, m2.sub, fun a o h1 _ h3 => e15.keep a o h1 h3⟩
      cases b with
      | false => exact iteF ⟨A5, Δ5, acc, accV, e15, m5, c5, hq5, hacc.ext e25, p5.2 rfl⟩
      | true =>
        refine iteT (he (q :: S) A5 σ4 H5 Γ4 Δ5 _ _ (s4.ext e5) c5 (p5.1 rfl) fun y dy A6 H6 Δ6 e6 c6 r6 p6 => ?_)
        have e16 := e15.trans e6
        have hq5' : q ∉ A5 := fun h => c5.dj q h List.mem_cons_self
        have hq6' : q ∉ A6 := fun h => c6.dj q h List.mem_cons_self
        have hq6 : H6 q = some (.lst accV) := e6.keep q _ hq5' hq5
        have hacc6 := (hacc.ext e25).ext e6
        have mo7 : Mo (q :: S) A6 H6 (q :: S) A6 (upd H6 q (.lst (accV ++ [y]))) := ⟨⟨[], by simp, by simp⟩, fun _ h => .inl h, fun a o _ h2 h3 => by
          rw [upd_ne (fun h => h2 (by rw [h]; exact List.mem_cons_self))]; exact h3⟩
        have nq : ∀ a o, H1 a = some o → a ≠ q := fun a o h => ne_of_none h hq
        refine ⟨accV, hq6, lt_line (by rw [hacc6.length]; exact p6.1), A6, Δ6, acc ++ [dy], accV ++ [y], ?_, ?_, ?_, upd_same, ?_, p6.2⟩
        · exact ⟨e16.pre, fun a o h1 h2 => by rw [upd_ne (nq a o h2)]; exact e16.keep a o h1 h2, fun a h => by
            by_cases hb : a = q
            · subst hb; exact hq
            · rw [upd_ne hb] at h; exact e16.trk a h⟩
        · exact ⟨e16.pre, m2.sub, fun a o h1 _ h3 => by rw [upd_ne (nq a o h3)]; exact e16.keep a o h1 h3⟩
        · refine ⟨c6.len, c6.nd, c6.dj, fun a ha h => ?_, fun n a o h1 h2 => (c6.at_ n a o h1 h2).mono mo7 fun u h => ?_⟩
          · by_cases hb : a = q
            · subst hb; rw [upd_same] at h; cases h
            · rw [upd_ne hb] at h; exact c6.as a ha h
          · rw [upd_ne (fun hb => hq6' (by rw [← hb]; exact List.mem_of_getElem? h1))]; exact h
        · exact (RepL.append hacc6 (.cons r6 .nil)).mono mo7 _
    rw [wipe_wipe] at fin
    exact fin
  · rintro H2 ⟨A2, Δ2, acc, accV, e2, m2, c2, hqv, hacc, hp⟩
    rw [hn, List.drop_length] at hp
    obtain ⟨es, e9, hp⟩ := hp
    cases e9
    have hq2 : q ∉ A2 := fun h => c2.dj q h List.mem_cons_self
    exact k _ _ (A2 ++ [q]) H2 (Δ2 ++ [.lst acc]) (Ext.cellIn (e1.trans e2) (e1.trk q hq) hq2) (Cells.unset (o := .lst acc) c2 (c1.aside hq) ⟨accV, hqv, hacc.unaside hq2 (c1.aside hq)⟩) (.cell (by rw [← c2.len, List.getElem?_append_right (Nat.le_refl _), Nat.sub_self] <;> rfl)) hp
section
variable {C : CI} {X : Cx}
theorem ez_lcC {elt tg iter : Expr} {ifs : List Expr} {scope : Scope} {own : List (Str × Nat)} {pos : Pos} {zi : ZI} {g : TG} {zg : ZG} {zt : ZT} {ze : ZE} (hN : X.N.Nodup) (hi : IZ C X tg iter zi) (ok : BlkOk X.N X.env.scope scope own) (ho : Own g (own.map (·.2))) (hb : BlkZ C X scope tg ifs elt g zg zt ze)
    (hc : X.calm = true := by rfl) (hs : ∀ x, foldedSetIterable iter X.env x = pure x := by intro _; rfl) : EZ C X (.ListComp elt [⟨tg, iter, ifs, 0⟩] scope pos) (zLcC zi zg zt ze (own.map (·.2))) := by
  obtain ⟨wi, i1, i2⟩ := hi.ex; obtain ⟨tt, te, b1, b2, b3, b4⟩ := hb.ex
  exact ⟨_, pe_lc hc hN i1 ok (fun s H Ca cl fp => (b1 s H Ca cl fp).1) (fun s H Ca cl fp => (b1 s H Ca cl fp).2.1) (fun s H Ca cl fp => (b1 s H Ca cl fp).2.2) hs, ref_lcC i2 b2 ho b3 b4⟩
end
end Z

/-! Z13: an expression or a test that is lent the cells' contents: what it makes is forgotten, but for a value of tuples and what stands nowhere. -/
namespace Z
open PySem PySem.Spec PyProof.Rows L2
mutual
def bareT : D → Bool
  | .non | .bl _ | .int _ | .str _ => true
  | .tup ds => bareTs ds
  | _ => false
def bareTs : List D → Bool
  | [] => true
  | d :: ds => bareT d && bareTs ds
end
section
variable {K : PySem.W.Frag} {C : CI} {S A : List Addr} {H : Hp} {Δ : Store}
theorem Cells.no_tup (c : Cells K C S A H Δ) {a : Addr} {xs : List V} (h : H a = some (.tup xs)) : a ∉ A := fun hm => by
  obtain ⟨n, hn⟩ := List.mem_iff_getElem?.mp hm
  have hl : n < Δ.length := by rw [← c.len]; exact (List.getElem?_eq_some_iff.mp hn).1
  have q := c.at_ n a _ hn (List.getElem?_eq_getElem hl)
  cases e : Δ[n] with
  | lst ds => rw [e] at q; obtain ⟨xs, g, _⟩ := q; rw [h] at g; cases g
  | ins k fs => rw [e] at q; obtain ⟨dx, xs, g, _⟩ := q; rw [h] at g; cases g
  | dct ks ds => rw [e] at q; obtain ⟨xs, g, _⟩ := q; rw [h] at g; cases g
mutual
theorem Rep.of_bareT {A' : List Addr} (c : Cells K C S A H Δ) : ∀ (d : D) {v : V}, bareT d = true → Rep K C S A' H v d → Rep K C S A H v d
  | .non, _, _, h => by cases h; exact .non
  | .bl b, _, _, h => by cases h; exact .bl b
  | .int i, _, _, h => by cases h; exact .int i
  | .str x, _, _, h => by cases h; exact .str x
  | .tup ds, _, hb, h => by cases h with | tup h1 hA hS r => exact .tup h1 (c.no_tup h1) hS (RepL.of_bareT c ds hb r)
  | .ty _, _, hb, _ => by cases hb
  | .cls _, _, hb, _ => by cases hb
  | .lst _, _, hb, _ => by cases hb
  | .ins _ _, _, hb, _ => by cases hb
  | .dct _ _, _, hb, _ => by cases hb
  | .cell _, _, hb, _ => by cases hb
  | .scr _, _, hb, _ => by cases hb
theorem RepL.of_bareT {A' : List Addr} (c : Cells K C S A H Δ) : ∀ (ds : List D) {vs : List V}, bareTs ds = true → RepL K C S A' H vs ds → RepL K C S A H vs ds
  | [], _, _, h => by cases h; exact .nil
  | d :: ds, _, hb, h => by
    have hb' : (bareT d && bareTs ds) = true := hb
    rw [Bool.and_eq_true] at hb'
    cases h with
    | cons h r => exact .cons (Rep.of_bareT c d hb'.1 h) (RepL.of_bareT c ds hb'.2 r)
end
/-- slots that are lent: a cell's content, where no other cell stands in it -/
def lent1 (Δ : Store) : Option D → Option D
  | some d => if Z.below 0 (Z.thaw Δ d) = true then some (Z.thaw Δ d) else none
  | none => none
theorem Slots.lent {σ : L2.St} {Γ : Env} (c : Cells K C S A H Δ) (s : Slots K C S A H σ Γ) : Slots K C S [] H σ (Γ.map (lent1 Δ)) := by
  refine ⟨by rw [List.length_map]; exact s.len, fun i d h => ?_⟩
  rw [List.getElem?_map] at h
  cases e : Γ[i]? with
  | none => rw [e] at h; cases h
  | some o =>
    cases o with
    | none => rw [e] at h; cases h
    | some d0 =>
      rw [e] at h
      have h : lent1 Δ (some d0) = some d := by simpa using h
      unfold lent1 at h
      by_cases hb : Z.below 0 (Z.thaw Δ d0) = true
      · simp only [hb, if_true] at h
        cases h
        obtain ⟨v, h1, h2⟩ := s.at_ i d0 e
        exact ⟨v, h1, Rep.thw c d0 hb h2⟩
      · simp only [if_neg hb] at h; cases h
end
def zLend (z : ZE) : ZE := fun Γ Δ P => z (Γ.map (lent1 Δ)) [] fun d _ => bareT d = true ∧ P d Δ
def zLendT (z : ZT) : ZT := fun Γ Δ P => z (Γ.map (lent1 Δ)) [] fun b _ => P b Δ
section
variable {K : PySem.W.Frag} {C : CI} {X : Cx} {e : Expr} {ze : ZE} {zt : ZT}
theorem ref_lend {te : TE} (h : RefE K C te ze) : RefE K C te (zLend ze) := fun S A σ H Γ Δ P Q hs hc hz k =>
  h S [] σ H _ [] _ Q (Slots.lent hc hs) ⟨rfl, .nil, (fun a ha => nomatch ha), hc.as, (fun n a o h => nomatch h)⟩ hz fun v d A' H' Δ' e2 c2 r2 p2 => by
    have kp : ∀ a o, H a = some o → H' a = some o := fun a o h => e2.keep a o (fun q => nomatch q) h
    exact k v d A H' Δ (Ext.kept kp) (hc.kept kp) (Rep.of_bareT (hc.kept kp) d p2.1 r2) p2.2
theorem ref_lendT {tt : TT} (h : RefT K C tt zt) : RefT K C tt (zLendT zt) := fun S A σ H Γ Δ P Q hs hc hz k =>
  h S [] σ H _ [] _ Q (Slots.lent hc hs) ⟨rfl, .nil, (fun a ha => nomatch ha), hc.as, (fun n a o h => nomatch h)⟩ hz fun b A' H' Δ' e2 c2 p2 => by
    have kp : ∀ a o, H a = some o → H' a = some o := fun a o h => e2.keep a o (fun q => nomatch q) h
    exact k b A H' Δ (Ext.kept kp) (hc.kept kp) p2
theorem ez_lend (h : EZ C X e ze) : EZ C X e (zLend ze) := by
  obtain ⟨t, h1, h2⟩ := h.ex
  exact ⟨t, h1, ref_lend h2⟩
theorem tz_lend (h : TZ C X e zt) : TZ C X e (zLendT zt) := by
  obtain ⟨t, h1, h2⟩ := h.ex
  exact ⟨t, h1, ref_lendT h2⟩
theorem frD_bare {p q : Int} : bareT (.tup [.int p, .int q]) = true := rfl
end
/-! ### sorted of a list of ints; a list given to names -/
section
variable {C : CI} {X : Cx} {pos : Pos}
def zSortI : ZRC := fun ds Δ P => ∃ (d : D) (ns : List Int), ds = [d] ∧ lstD Δ d = some (ns.map D.int) ∧ ∀ ys : List Int, ys.Perm ns → ys.Pairwise (· ≤ ·) → P (.lst (ys.map D.int)) Δ
theorem cz_sortI : CallZ C X (.builtin "sorted") zSortI := ⟨_, cr_sortedI, fun S A H Δ xs ds P Q hc r hz k => by
  obtain ⟨d, ns, rfl, hd, q⟩ := hz
  obtain ⟨v, rfl, rv⟩ := one_rep r
  obtain ⟨pa, ys, rfl, hq, rr⟩ := Rep.lst_ hc rv hd
  obtain rfl := repL_int rr
  refine ⟨pa, ns, rfl, SqL.of hq, fun zs p h1 h2 hp => ?_⟩
  exact k _ _ A _ Δ (Ext.new hp) (hc.kept fun a o h => by rw [upd_ne (ne_of_none h hp)]; exact h) (.lst upd_same (hc.fresh hp) (hc.aside hp) (repL_ints zs)) (q zs h1 h2)⟩
def zgLst (n : Nat) (gs : ZGs) : ZG := fun d Γ Δ P => ∃ ds, d = .lst ds ∧ ds.length = n ∧ gs ds Γ Δ P
theorem gz_lst {es : List Expr} {k : Nat} {gs : TGs} {zs : ZGs} {n : Nat} (h : GsZ C X es gs zs) (hc : X.calm = true := by rfl) (hn : (assignEach es X.env).length = n := by rfl) (hst : (assignEach es X.env).findIdx? (·.1) = none := by rfl) : GZ C X (.Tuple es k pos) (gLst X.K n gs) (zgLst n zs) :=
  ⟨pg_lst hc h.pg hn hst, fun S A σ H Γ Δ v d P Q hs hc r hz k => by
    obtain ⟨ds, rfl, hl, p⟩ := hz
    cases r with
    | lst h1 h2 h3 r => exact ⟨_, _, rfl, SqL.of h1, by rw [r.length]; exact hl, h.ref S A σ H Γ Δ _ ds P Q hs hc r p k⟩⟩
end
end Z

/-! Z14: enumerate over a tuple. -/
namespace Z
open PySem PySem.Spec PyProof.Rows L2
open Sem (wp)
open AutoSeq1 (wpAny_loadPart')
/-- the heap with the two records that stand for enumerate over the tuple at t -/
def enT1 (h : Heap) (t : Addr) : Heap := h.push { cls := .type "tuple_iterator", data := .fields #[.ref t, .int 0 0] }
def enT2 (h : Heap) (t : Addr) : Heap := (enT1 h t).push { cls := .type "enumerate", data := .fields #[.none, .bool false, .ref h.objs.size, rawInt 0, .none, .none] }
theorem newEnT (t : Addr) (us : Array Value) (m : Nat) (dd : Option Addr) (sl : Array (Option Value)) :
    Meets (Builtin.«enumerate.__new__» ⟨[.type "enumerate", .ref t], []⟩) fun _ R z =>
      z.heap.get? t = some { cls := .type "tuple", dict := dd, data := .seq us m, slots := sl } ∧ R (.ok (.ret (.ref (enT1 z.heap t).objs.size))) { z with heap := enT2 z.heap t } :=
  .of_wp fun prog w A R z hz => by
    obtain ⟨h1, g1, d1, t1, o1⟩ := z
    obtain ⟨ht, hR⟩ := hz
    have su := sub_enumerate
    have isT : Heap.IsTuple (Shared.heap ⟨h1, g1, d1, t1, o1⟩) t us := ⟨_, ht, rfl, m, rfl⟩
    wp_walk using wpAny_loadPart' ht
    refine wpAny_stack_any fun _ => wpAny_pure ?_
    split <;> first
      | (rename_i kl _ _ _ _ _; cases (kl == Value.type "enumerate") <;> (wp_walk using wpAny_loadPart' ht, wpAny_pyIter_tuple isT; exact ⟨_, rfl, hR⟩))
      | (wp_walk using wpAny_loadPart' ht, wpAny_pyIter_tuple isT; exact ⟨_, rfl, hR⟩)
theorem enT_get (h : Heap) (t : Addr) : IsEnum (enT2 h t) (h.objs.size + 1) h.objs.size 0 .none ∧ (enT2 h t).IsTupleIter h.objs.size t 0 ∧ ∀ b o, h.get? b = some o → (enT2 h t).get? b = some o := by
  have z1 : (enT1 h t).objs.size = h.objs.size + 1 := Heap.size_push ..
  refine ⟨?_, ⟨_, Heap.get?_push_of_some _ (Heap.get?_push_size _ rfl), rfl, rfl⟩, fun b o e => Heap.get?_push_of_some _ (Heap.get?_push_of_some _ e)⟩
  have := Heap.get?_push_size (enT1 h t) (o := { cls := .type "enumerate", data := .fields #[.none, .bool false, .ref h.objs.size, rawInt 0, .none, .none] }) rfl
  rw [z1] at this
  exact this
section
variable {prog : Program} {w : World} {A : Around} {E : Value → Shared → Prop} {z : Shared}
theorem callEnT {t : Addr} {us : Array Value} {Q : Value → Shared → Prop} (ht : z.heap.IsTuple t us) (k : Q (.ref (z.heap.objs.size + 1)) { z with heap := enT2 z.heap t }) : wpAny (model prog w) A (call (.type "enumerate") [.ref t]) Q E z := by
  obtain ⟨⟨c, dd, dt, sl⟩, hl, hc, m, hd⟩ := ht
  obtain rfl : c = .type "tuple" := hc
  obtain rfl : dt = .seq us m := hd
  have z1 : (enT1 z.heap t).objs.size = z.heap.objs.size + 1 := Heap.size_push ..
  refine callType_new F.called_enumerate (by decide) (F.typeCall_enumerate_1 _) (F.newCall_enumerate_1 _) (fun ob => F.args_object_init_2 ob _) F.entry_enumerate_new (newEnT t us m dd sl) ⟨hl, ?_⟩
  show _ ∧ _
  rw [z1]
  exact ⟨⟨_, (enT_get z.heap t).1, rfl⟩, k⟩
end
/-- the pairs of the tuple at a -/
def IteT (K : PySem.W.Frag) (a : Addr) : It :=
  ⟨fun i H => ∃ us : List V, ∃ x : V, SqT K H a us ∧ us[i]? = some x,
   fun i H v H' => ∃ T x, v = .ref T ∧ H T = none ∧ H' = upd H T (.tup [.int (i : Nat), x]) ∧ ∀ us, SqT K H a us → us[i]? = some x,
   fun i H => ∃ us : List V, SqT K H a us ∧ i = us.length⟩
theorem turnEnT {P : Program} {w : World} {K : PySem.W.Frag} {elts : List Expr} {kk : Nat} {tpos : Pos} (a e it : Addr) :
    Turn P w K (.Tuple elts kk tpos) (IteT K a) [e, it] e (fun i h => (∃ u, IsEnum h e it ((i : Nat) : Int) u) ∧ h.IsTupleIter it a i ∧ e ≠ it ∧ a ≠ it ∧ e ≠ a) where
  mem := List.mem_cons_self
  obj := fun i h ⟨⟨u, he⟩, ⟨o, ho, _, hd⟩, _⟩ b hb => by
    rcases List.mem_cons.mp hb with z | z
    · rw [z]
      exact ⟨_, he, fun _ q => Data.noConfusion q⟩
    · rw [List.mem_singleton] at z
      exact ⟨o, by rw [z]; exact ho, fun v q => by rw [hd] at q; cases q⟩
  keep := fun i h h' ⟨⟨u, he⟩, hi, hne⟩ k => ⟨⟨u, k e List.mem_cons_self _ he⟩, hi.at fun o q => k it (List.mem_cons_of_mem _ List.mem_cons_self) o q, hne⟩
  item := by
    intro X hP hw hK hc i pins s σ H E I hf st hg
    subst hP hw hK
    obtain ⟨⟨u0, he⟩, hit, hne, hai, hea⟩ := st
    obtain ⟨us, x, hq, hx⟩ := hg
    obtain ⟨its, rv, pt, _⟩ := I.tuple hq
    obtain ⟨u, hu, ru⟩ := rv.get hx
    have le : e < s.heap.objs.size := Heap.lt_size he
    have li : it < s.heap.objs.size := Heap.lt_size hit.choose_spec.1
    have ex : its.toArray[i]? = some u := by simpa using hu
    have il : i < its.toArray.size := by
      obtain ⟨q, _⟩ := Array.getElem?_eq_some_iff.mp ex
      exact q
    have D := Draws.tuple (prog := X.prog) (w := X.w) (A := X.A.in1) (show X.A.in1.handled = none from I.ok.hd hc) it a hai its.toArray
    refine wpAny_pyNext_enum_itemD D he ⟨hit, pt⟩ il hne (by simp [hne, hea]) fun y h1 tk hy out st1 gT _ kp => ?_
    obtain rfl : y = u := by
      have hy : its.toArray[i]? = some y := hy
      rw [ex] at hy
      exact (Option.some.inj hy).symm
    refine ⟨_, rfl, wpAny_letOwnedTupleGo_enum (s := { s with heap := h1, toks := tk + 1 }) out fun h2 he2 sb => ?_⟩
    have gT2 : h2.get? s.heap.objs.size = some { cls := .type "tuple", data := .seq #[.int i tk, y] } := by rw [sb.2 _ (Nat.ne_of_gt le)]; exact gT
    have pr : ObjOk X.prog X.w (upd H s.heap.objs.size (.tup [.int (i : Nat), x])) h2 s.heap.objs.size (.tup [.int (i : Nat), x]) := by
      refine ⟨?_, [.int i tk, y], .cons ⟨_, rfl⟩ (.cons ru .nil), _, gT2, rfl, _, rfl⟩
      show 2 ≤ sizeLine
      decide
    have J : Inv X pins σ (upd H s.heap.objs.size (.tup [.int (i : Nat), x])) { s with heap := h2, toks := tk + 1 } := by
      refine I.turnedNew (ch := [e, it]) (fun b ob hb q => ?_) hf (Nat.le_refl _) pr
      have nb : b ≠ e ∧ b ≠ it := ⟨fun y => hb (by simp [y]), fun y => hb (by simp [y])⟩
      rw [sb.2 b nb.1]
      exact kp b ob nb.1 nb.2 q
    refine ⟨.ref s.heap.objs.size, _, J, rfl, ⟨_, x, rfl, I.hok.fresh (Nat.le_refl _), rfl, fun vs hv => ?_⟩, ⟨⟨y, ?_⟩, ?_, hne, hai, hea⟩, fun b hb => ?_⟩
    · rw [I.tuple_inj hv hq]
      exact hx
    · rw [show ((i + 1 : Nat) : Int) = (i : Int) + 1 by omega]
      exact he2
    · exact st1.1.at fun o q => by rw [sb.2 it (Ne.symm hne)]; exact q
    · have lb : b < s.heap.objs.size := by
        rcases List.mem_cons.mp hb with z | z
        · rw [z]; exact le
        · rw [List.mem_singleton.mp z]; exact li
      rw [upd_ne (Nat.ne_of_lt lb)]
      exact (hf b hb).1
  done := by
    intro X hP hw hK hc i pins s σ H E I hf st hg
    subst hP hw hK
    obtain ⟨⟨u0, he⟩, hit, hne, hai, hea⟩ := st
    obtain ⟨us, hq, hx⟩ := hg
    obtain ⟨its, rv, pt, _⟩ := I.tuple hq
    obtain ⟨f0, f1, f2, f3, f4, f5⟩ := hf it (by simp)
    obtain rfl : i = its.toArray.size := by
      rw [hx, rv.length]
      simp
    have D := Draws.tuple (prog := X.prog) (w := X.w) (A := X.A.in1) (show X.A.in1.handled = none from I.ok.hd hc) it a hai its.toArray
    refine wpAny_pyNext_enum_endD D he ⟨hit, pt⟩ fun h1 eb => ⟨rfl, ?_⟩
    exact I.turned (t' := s.toks) (fun b o nb q => eb b o nb q) f0 f1 f3 f4 f5
  self := fun A i s Q E st h => wpAny_pyIter_enum st.1.choose_spec h
def iEnT (K : PySem.W.Frag) (ta : TA) : TI := fun σ H R => ta σ H fun vs H1 => ∃ (a : Addr) (us : List V), vs = [.ref a] ∧ SqT K H1 a us ∧ R (IteT K a) H1
theorem piEnT {X : Cx} {e : Expr} {ta : TA} {p pos tpos : Pos} {elts : List Expr} {kk : Nat} (hg : Gl X "enumerate") (hm : X.mg "enumerate" = none) (ha : PA X [e] ta) (hs : starEach [e] X.env = [(false, eval e X.env)] := by rfl) : PI X (.Tuple elts kk tpos) (.Call (.Name "enumerate" p) [e] [] pos) (iEnT X.K ta) := by
  refine ⟨fun pins z σ H R I h => Call_ (ld_blt I hg hm boot_enumerate (PyProof.Rows.callWith_type1 (thn (ha.run pos pins z σ H _ I h) fun us z1 ⟨vs, H1, J, r1, q1⟩ => ?_) hs rfl))⟩
  obtain ⟨a, xs, rfl, hq, q⟩ := q1
  cases r1 with
  | cons r rr =>
    cases rr
    cases r
    obtain ⟨its, rv, pt, _⟩ := J.tuple hq
    obtain ⟨g1, g2, g3⟩ := enT_get z1.heap a
    have la : a < z1.heap.objs.size := Heap.lt_size pt.choose_spec.1
    refine callEnT pt (wpAny_pyIter_enum g1 ?_)
    have J2 : Inv X pins σ H1 { z1 with heap := enT2 z1.heap a } := J.kept (t' := z1.toks) g3
    refine ⟨z1.heap.objs.size + 1, [z1.heap.objs.size + 1, z1.heap.objs.size], _, _, H1, rfl, J2, turnEnT a (z1.heap.objs.size + 1) z1.heap.objs.size, ⟨⟨.none, g1⟩, g2, Nat.succ_ne_self _, Nat.ne_of_lt la, Nat.ne_of_gt (Nat.lt_succ_of_lt la)⟩, fun b hb => ?_, q⟩
    have hle : z1.heap.objs.size ≤ b := by
      rcases List.mem_cons.mp hb with y | y
      · rw [y]
        exact Nat.le_add_right _ _
      · rw [List.mem_singleton.mp y]
        exact Nat.le_refl _
    exact J.fpOk hle (J.hok.fresh hle)
theorem walkEnT {K : PySem.W.Frag} {a : Addr} {us : List V} : Walk (IteT K a) us.length (fun H => SqT K H a us) (YPair (fun i => some (.int (i : Nat))) (fun i => us[i]?)) :=
  ⟨fun i _ hi q => ⟨us, us[i], q, by simp [hi]⟩, fun _ q => ⟨us, q, rfl⟩, fun i H v H' _ q ⟨T, x, h1, h2, h3, h4⟩ => ⟨T, .int (i : Nat), x, h1, h2, h3, rfl, h4 us q⟩⟩
section
variable {C : CI} {X : Cx} {za : ZA} {p pos : Pos}
def ziEnumT (za : ZA) : ZI := fun Γ Δ P => za Γ Δ fun ds Δ1 => ∃ xs, ds = [.tup xs] ∧ P (enumD xs) Δ1
theorem iz_enumT {e : Expr} {tpos : Pos} {elts : List Expr} {kk : Nat} (ha : AZ C X [e] za) (hm : X.mg "enumerate" = none) (hg : Gl X "enumerate" := by rfl) (hs : starEach [e] X.env = [(false, eval e X.env)] := by rfl) : IZ C X (.Tuple elts kk tpos) (.Call (.Name "enumerate" p) [e] [] pos) (ziEnumT za) := by
  obtain ⟨t, a1, a2⟩ := ha.ex
  refine ⟨_, piEnT hg hm a1 hs, fun S A σ H Γ Δ P R hs hc hz k => a2 S A σ H Γ Δ _ _ hs hc hz fun vs ds A1 H1 Δ1 e1 c1 r1 q => ?_⟩
  obtain ⟨xs, rfl, q⟩ := q
  obtain ⟨v, rfl, rv⟩ := one_rep r1
  cases rv with
  | tup g1 g2 g3 g4 =>
    rename_i a us
    refine ⟨a, us, rfl, SqT.of g1, ?_⟩
    refine k (IteT X.K a) us.length _ _ _ A1 H1 Δ1 e1 c1 q (by unfold enumD; rw [List.length_map, List.length_zipIdx, g4.length]) walkEnT (fun S2 A2 H2 m => SqT.of (m.keep _ _ g2 g3 g1)) fun S2 A2 H2 Δ2 i x H3 hi m c2 y => ?_
    obtain ⟨T, y1, y2, rfl, nT, rfl, f1, f2⟩ := y
    cases f1
    obtain ⟨d2, q3, q4⟩ := (RepL.mono m _ g4).getV f2
    refine ⟨.tup [.int (i : Nat), d2], ?_, fun b o h => by rw [upd_ne (ne_of_none h nT)]; exact h, .tup upd_same (c2.fresh nT) (c2.aside nT) (.cons (.int _) (.cons (q4.ext (Ext.new nT)) .nil))⟩
    unfold enumD
    rw [List.getElem?_map, List.getElem?_zipIdx, q3]
    simp
end
end Z

/-! Z15: sorted(set(..)) of a list of ints. -/
namespace Z
open PySem PySem.Spec PyProof.Rows L2
/-- the set that is made first, and the heap with it -/
def emS (w : World) : Obj := { cls := .type "set", dict := none, data := .set #[] 0 (.fresh 0 0 (!w.params.followText "set-order")) }
def emH (w : World) (h : Heap) : Heap := h.push (emS w)
section
variable {P : Program} {w : World} {A : Around} {E : Value → Shared → Prop} {s : Shared}
theorem setOfL {l : Addr} {us : Array Value} (ns : List Int) {Q : Value → Shared → Prop} (hh : A.handled = none) (hl : s.heap.IsList l us) (iu : IntsAre us.toList ns) (few : ns.length + 1 < scanBound)
    (k : ∀ (h' : Heap) (t c : Nat), SetR w h' s.heap.objs.size (fun j => decide (j ∈ ns)) c → c ≤ ns.length → (∀ b o, s.heap.get? b = some o → h'.get? b = some o) → Q (.ref s.heap.objs.size) { s with heap := h', toks := t }) : wpAny (model P w) A (call (.type "set") [.ref l]) Q E s := by
  have usz : us.size = ns.length := by rw [← IntsAre.length iu, Array.length_toList]
  obtain ⟨cc, tt, mr⟩ := F.called_set.mro
  have md := F.called_set.made
  have sb := F.called_set.sub
  refine wpAny_call (codeAny_of_tree (show wpAny _ _ (callAny (.type "set") _) _ _ _ from ?_))
  refine wpAny_pure ⟨Code.quiet_builtin _ (by decide +kernel), codeAny_builtin F.entry_type_call ?_⟩
  rw [Around.under_plain (weight_type_call_type "set" [.ref l] []) rfl]
  have y1 := F.called_set.notType
  have y2 := F.called_set.canCreate
  have y3 := F.typeCall_set_1 (.ref l)
  repeat (any_goals first | assumption | wp_step)
  refine codeAny_mono (code_set_led1 (.ref l) (E := E) (Q₁ := fun ob z => ob = .ref s.heap.objs.size ∧ z = { s with heap := emH w s.heap }) ⟨rfl, rfl⟩) fun r z hr => ?_
  rcases r with e | fl
  · exact hr
  cases fl with
  | ret ob =>
    obtain ⟨rfl, rfl⟩ := hr
    have gS : (emH w s.heap).get? s.heap.objs.size = some (emS w) := Heap.get?_push_size _ rfl
    have tS : Shared.TypeIs { s with heap := emH w s.heap } (.ref s.heap.objs.size) "set" := ⟨_, gS, rfl⟩
    have y4 := F.called_set.init.lookup
    have y5 := F.called_set.init.bind (.ref s.heap.objs.size)
    repeat (any_goals first | assumption | wp_step)
    refine codeAny_mono (codeAny_call_builtin (R := wants (fun r z => r = .none ∧ ∃ h' t c, z = { s with heap := h', toks := t } ∧ SetR w h' s.heap.objs.size (fun j => decide (j ∈ ns)) c ∧ c ≤ ns.length ∧ ∀ b o, s.heap.get? b = some o → h'.get? b = some o) E) F.called_set.init.plain F.entry_set_init (check_set_init_1 tS ?_)) fun r2 z2 hr2 => ?_
    · obtain ⟨⟨kl, dd, dt, sl⟩, gl, hkl, m, hd⟩ := hl
      obtain rfl : kl = .type "list" := hkl
      obtain rfl : dt = .seq us m := hd
      have gl2 : (emH w s.heap).get? l = some { cls := .type "list", dict := dd, data := .seq us m, slots := sl } := Heap.get?_push_of_some _ gl
      have n1 := F.sub_list_set
      have n2 := F.sub_list_frozenset
      have n3 : (Value.type "list" == Value.type "dict") = false := by decide
      have isL : (emH w s.heap).IsList l us := ⟨_, gl2, rfl, m, rfl⟩
      unfold Builtin.«set.__init__» noKeywords Builtin.Frozenset.updateFrom
      generalize hp : pyIter = pI
      wp_walk
      subst hp
      refine wpAny_pyIter_list isL (wpAny_bind (wpAny_runValue ?_))
      have ll : l < s.heap.objs.size := Heap.lt_size gl
      have h3 : A.in1.in1.in1.handled = none := hh
      have z1 : (emH w s.heap).objs.size = s.heap.objs.size + 1 := Heap.size_push ..
      have nI : l ≠ (emH w s.heap).objs.size := by
        rw [z1]
        exact Nat.ne_of_lt (Nat.lt_succ_of_lt ll)
      have nf : s.heap.objs.size ∉ [(emH w s.heap).objs.size, l] := by
        rw [z1]
        intro y
        rcases List.mem_cons.mp y with y | y
        · exact Nat.ne_of_lt (Nat.lt_succ_self _) y
        · exact Nat.ne_of_gt ll (List.mem_singleton.mp y)
      have vs : ∀ (i : Nat) (v : Value), us[i]? = some v → ∃ j t, ns[i]? = some j ∧ v = .int j t := fun i v hv => by
        have hi : i < ns.length := by
          rw [← usz]
          exact (Array.getElem?_eq_some_iff.mp hv).1
        obtain ⟨t, e⟩ := PyProof.Rows.IntsAre.int_at iu i v (by rw [Array.getElem?_toList]; exact hv)
        refine ⟨ns[i], t, List.getElem?_eq_getElem hi, e.trans ?_⟩
        rw [List.getD_eq_getElem?_getD, List.getElem?_eq_getElem hi] <;> rfl
      refine set_update_ints ((Walks.list h3 _ l nI us).toS) s.heap.objs.size nf ns usz few vs (us.size - 0) 0 _ (by omega) (Nat.zero_le _) ⟨⟨_, Heap.get?_push_size _ rfl, rfl, rfl⟩, isL.push _⟩ ?g0 ?g1
      case g0 => exact ⟨0, Nat.le_refl 0, setR_new_at (Heap.get?_push_of_some _ gS)⟩
      case g1 =>
        intro z c mv hc hS
        obtain ⟨h', g', d', t', o'⟩ := z
        obtain rfl : g' = s.gens := mv.gens
        obtain rfl : d' = s.drawn := mv.drawn
        obtain rfl : o' = s.os := mv.os
        rw [usz] at hc
        refine wpAny_pure (wpAny_pure ⟨rfl, h', t', c, rfl, hS, hc, fun b o e => ?_⟩)
        have lb : b < s.heap.objs.size := Heap.lt_size e
        refine mv.heap b o (fun y => ?_) (Heap.get?_push_of_some _ (Heap.get?_push_of_some _ e))
        rcases List.mem_cons.mp y with y | y
        · exact Nat.ne_of_lt lb y
        · have y := List.mem_singleton.mp y
          rw [show (emH w s.heap).objs.size = s.heap.objs.size + 1 from z1] at y
          exact Nat.ne_of_lt (Nat.lt_succ_of_lt lb) y
    · rcases r2 with e | fl2
      · exact hr2
      cases fl2 with
      | ret r =>
        obtain ⟨rfl, h', t, c, rfl, hS, hc, hk⟩ := hr2
        repeat (any_goals first | assumption | wp_step)
        exact k _ _ _ hS hc hk
      | _ => exact hr2.elim
  | _ => exact hr.elim
end
end Z

namespace Z
open PySem PySem.Spec PyProof.Rows L2
def rSetL (K : PySem.W.Frag) (w : World) : List V → Hp → VK → Prop := fun xs H Q => ∃ (l : Addr) (ns : List Int), xs = [.ref l] ∧ SqL K H l (ns.map V.int) ∧ ns.length + 1 < scanBound ∧ ∀ a c, H a = none → c ≤ ns.length → Q (.ref a) (upd H a (SetO w a (fun j => decide (j ∈ ns)) c))
theorem crSetL {X : Cx} (hc : X.calm = true) : CallR X (.type "set") (rSetL X.K X.w) := by
  rintro pins s σ H _ us Q I r ⟨l, ns, rfl, hl, few, q⟩
  rw [Vals.ref1 r]
  obtain ⟨its, rv, pl, _⟩ := I.list hl
  refine setOfL ns (I.ok.hd hc) pl.isList (ints_of_vals rv) few fun h' t c R lc kp => ?_
  exact ⟨.ref s.heap.objs.size, _, I.laid (t' := t) kp (Nat.le_refl _) (setO_new R), rfl, q _ c (I.hok.fresh (Nat.le_refl _)) lc⟩
section
variable {C : CI} {X : Cx} {z : ZE} {e : Expr} {p p2 pos pos2 : Pos}
def zSrtL (z : ZE) : ZE := fun Γ Δ P => z Γ Δ fun d Δ1 => ∃ ns : List Int, lstD Δ1 d = some (ns.map D.int) ∧ ns.length < 63 ∧ ∀ ms : List Int, ms.Pairwise (· < ·) → (∀ k, k ∈ ms ↔ k ∈ ns) → P (.lst (ms.map D.int)) Δ1
theorem ez_srtL (m1 : X.mg "sorted" = none) (m2 : X.mg "set" = none) (h : EZ C X e z) (hc : X.calm = true := by rfl) (g1 : Gl X "sorted" := by rfl) (g2 : Gl X "set" := by rfl)
    (st1 : starEach [e] X.env = (false, eval e X.env) :: starEach [] X.env := by rfl) (pl1 : (backTo pos2 (starEach [] X.env)).any (·.1) = false := by rfl)
    (st2 : starEach [.Call (.Name "set" p2) [e] [] pos2] X.env = (false, eval (.Call (.Name "set" p2) [e] [] pos2) X.env) :: starEach [] X.env := by rfl) (pl2 : (backTo pos (starEach [] X.env)).any (·.1) = false := by rfl) :
    EZ C X (.Call (.Name "sorted" p) [.Call (.Name "set" p2) [e] [] pos2] [] pos) (zSrtL z) := by
  obtain ⟨t, a1, a2⟩ := h.ex
  have q1 := pe_callTy (X := X) (pos := pos2) (p := p2) (crSetL hc) g2 m2 PyProof.Rows.boot_set (pa_cons a1 pa_nil st1) (by decide) (by decide) st1 pl1
  refine ⟨_, pe_callB (cr_sortedSet hc) g1 m1 (by decide +kernel) (pa_cons q1 pa_nil st2) (by decide) (by decide) st2 pl2, fun S A σ H Γ Δ P Q hs hc2 hz k => ?_⟩
  refine a2 S A σ H Γ Δ _ _ hs hc2 hz fun v d A1 H1 Δ1 e1 c1 r1 ⟨ns, hd, few, q⟩ => ?_
  obtain ⟨pa, ys, rfl, hq, rr⟩ := Rep.lst_ c1 r1 hd
  obtain rfl := repL_int rr
  refine ⟨pa, ns, rfl, SqL.of hq, by unfold scanBound; omega, fun a c ha lc => ?_⟩
  refine ⟨a, _, c, rfl, upd_same, by omega, fun ms b y1 y2 _ hb => ?_⟩
  have c2 : Cells X.K C S A1 (upd H1 a (SetO X.w a (fun j => decide (j ∈ ns)) c)) Δ1 := c1.kept fun x o y => by
    rw [upd_ne (ne_of_none y ha)]
    exact y
  have c3 := c2.kept (H' := upd (upd H1 a (SetO X.w a (fun j => decide (j ∈ ns)) c)) b (.lst (ms.map V.int))) fun x o y => by
    rw [upd_ne (ne_of_none y hb)]
    exact y
  exact k _ _ A1 _ Δ1 ((e1.trans (Ext.new ha)).trans (Ext.new hb)) c3 (.lst upd_same (c2.fresh hb) (c2.aside hb) (repL_ints ms)) (q ms y1 fun j => by rw [y2, decide_eq_true_iff])
end
end Z

/-! Z17: powers of great ints; min, max of a list; isinstance with several types; list(range(..)); a call that is lent the cells' contents and gives a new list; a def that is never called. -/
namespace Z
open PySem PySem.Spec PyProof.Rows L2
/-! ### powers -/
def CPowW (i j : Int) : Prop := 0 ≤ j ∧ ((i.natAbs.log2 + 1 : Nat) : Int) * j ≤ 2 ^ 27
section
variable {C : CI} {X : Cx}
theorem op_powW : OpR X (binaryOp .Pow) (rI CPowW fun i j => .int (i ^ j.toNat)) := opI fun i j _ _ _ _ _ hc q => by
  refine pow_int hc.1 ?_ q
  have b : Builtin.Int.intBits i ≤ i.natAbs.log2 + 1 := by
    unfold Builtin.Int.intBits
    split <;> omega
  have h := hc.2
  have h1 : ((Builtin.Int.intBits i : Nat) : Int) * j ≤ ((i.natAbs.log2 + 1 : Nat) : Int) * j := Int.mul_le_mul_of_nonneg_right (by omega) hc.1
  exact Int.le_trans h1 h
theorem oz_powW : OpZ C X (binaryOp .Pow) (zI CPowW fun i j => .int (i ^ j.toNat)) := ⟨_, op_powW, ref_I fun _ _ _ _ _ => .int _⟩
/-! ### min, max of a list of ints -/
def zMin1 : ZRC := fun ds Δ P => ∃ (d : D) (ns : List Int), ds = [d] ∧ lstD Δ d = some (ns.map D.int) ∧ ns ≠ [] ∧ ∀ m, m ∈ ns → (∀ y, y ∈ ns → m ≤ y) → P (.int m) Δ
def zMax1 : ZRC := fun ds Δ P => ∃ (d : D) (ns : List Int), ds = [d] ∧ lstD Δ d = some (ns.map D.int) ∧ ns ≠ [] ∧ ∀ m, m ∈ ns → (∀ y, y ∈ ns → y ≤ m) → P (.int m) Δ
theorem cz_min1 (hc : X.calm = true := by rfl) : CallZ C X (.builtin "min") zMin1 := ⟨_, cr_min hc, fun S A H Δ xs ds P Q hc r hz k => by
  obtain ⟨d, ns, rfl, hd, hne, q⟩ := hz
  obtain ⟨v, rfl, rv⟩ := one_rep r
  obtain ⟨pa, ys, rfl, hq, rr⟩ := Rep.lst_ hc rv hd
  obtain rfl := repL_int rr
  exact ⟨pa, ns, rfl, SqL.of hq, List.length_pos_iff.mpr hne, fun m h1 h2 => k _ _ A H Δ (Ext.refl _ _) hc (.int _) (q m h1 h2)⟩⟩
theorem cz_max1 (hc : X.calm = true := by rfl) : CallZ C X (.builtin "max") zMax1 := ⟨_, cr_max hc, fun S A H Δ xs ds P Q hc r hz k => by
  obtain ⟨d, ns, rfl, hd, hne, q⟩ := hz
  obtain ⟨v, rfl, rv⟩ := one_rep r
  obtain ⟨pa, ys, rfl, hq, rr⟩ := Rep.lst_ hc rv hd
  obtain rfl := repL_int rr
  exact ⟨pa, ns, rfl, SqL.of hq, List.length_pos_iff.mpr hne, fun m h1 h2 => k _ _ A H Δ (Ext.refl _ _) hc (.int _) (q m h1 h2)⟩⟩
/-! ### isinstance(x, (T, ..)) -/
inductive ClsDs (C : CI) : List D → List Value → Prop where
  | nil : ClsDs C [] []
  | cons {d : D} {u : Value} {ds : List D} {us : List Value} (h : clsD C d = some u) (r : ClsDs C ds us) : ClsDs C (d :: ds) (u :: us)
theorem RepL.clsVs {K : PySem.W.Frag} {S A : List Addr} {H : Hp} : ∀ {ds : List D} {us : List Value} {vs : List V}, ClsDs C ds us → RepL K C S A H vs ds → Paired ClsV vs us
  | _, _, _, .nil, h => by cases h; exact .nil
  | _, _, _, .cons h r, q => by
    cases q with
    | cons q1 q2 => exact .cons (q1.clsV h) (RepL.clsVs r q2)
def zIsiT (K : PySem.W.Frag) (C : CI) : ZRC := fun ds Δ P => ∃ x ys t us b, ds = [x, .tup ys] ∧ tyD C Δ x = some t ∧ ClsDs C ys us ∧ (∀ Ca, t = .ref Ca → Isi K Ca) ∧ PySem.W.kitAny K t us = some b ∧ P (.bl b) Δ
theorem cz_isiT : CallZ C X (.builtin "isinstance") (zIsiT X.K C) := ⟨_, call_isiT, fun S A H Δ xs ds P Q hc r hz k => by
  obtain ⟨x, ys, t, us, b, rfl, h1, h2, h3, h4, q⟩ := hz
  obtain ⟨v, v', rfl, rv, rv'⟩ := two_rep r
  cases rv' with
  | tup g1 g2 g3 g4 => exact ⟨v, _, _, t, us, b, rfl, g1, g4.clsVs h2, rv.tyX hc h1 h3, h4, k _ _ A H Δ (Ext.refl _ _) hc (.bl _) q⟩⟩
end
/-! ### a new list, made by a call that is lent the cells' contents -/
section
variable {K : PySem.W.Frag} {C : CI} {S A : List Addr} {H H' : Hp} {Δ : Store}
mutual
theorem Rep.re {A A' : List Addr} (c : ∀ a xs, H a = some (.tup xs) → a ∉ A) : ∀ (d : D) {v : V}, bareT d = true → Rep K C S A' H v d → Rep K C S A H v d
  | .non, _, _, h => by cases h; exact .non
  | .bl b, _, _, h => by cases h; exact .bl b
  | .int i, _, _, h => by cases h; exact .int i
  | .str x, _, _, h => by cases h; exact .str x
  | .tup ds, _, hb, h => by cases h with | tup h1 hA hS r => exact .tup h1 (c _ _ h1) hS (RepL.re c ds hb r)
  | .ty _, _, hb, _ => by cases hb
  | .cls _, _, hb, _ => by cases hb
  | .lst _, _, hb, _ => by cases hb
  | .ins _ _, _, hb, _ => by cases hb
  | .dct _ _, _, hb, _ => by cases hb
  | .cell _, _, hb, _ => by cases hb
  | .scr _, _, hb, _ => by cases hb
theorem RepL.re {A A' : List Addr} (c : ∀ a xs, H a = some (.tup xs) → a ∉ A) : ∀ (ds : List D) {vs : List V}, bareTs ds = true → RepL K C S A' H vs ds → RepL K C S A H vs ds
  | [], _, _, h => by cases h; exact .nil
  | d :: ds, _, hb, h => by
    have hb' : (bareT d && bareTs ds) = true := hb
    rw [Bool.and_eq_true] at hb'
    cases h with
    | cons h r => exact .cons (Rep.re c d hb'.1 h) (RepL.re c ds hb'.2 r)
end
/-- a list that stood nowhere becomes a cell of the caller -/
theorem Cells.adopt (c1 : Cells K C S A H Δ) {A' : List Addr} {Δ' : Store} (e2 : Ext [] H A' H') (c2 : Cells K C S A' H' Δ') {m : Nat} {a : Addr} {es : List D} (h1 : A'[m]? = some a) (h2 : Δ'[m]? = some (.lst es)) (hb : bareTs es = true) :
    H a = none ∧ Ext A H (A ++ [a]) H' ∧ Cells K C S (A ++ [a]) H' (Δ ++ [.lst es]) ∧ ∃ xs, H' a = some (.lst xs) ∧ RepL K C S A H' xs es := by
  have kp : ∀ b o, H b = some o → H' b = some o := fun b o h => e2.keep b o (fun q => nomatch q) h
  have ha : a ∈ A' := List.mem_of_getElem? h1
  obtain ⟨B, hB, nB⟩ := e2.pre
  have hn : H a = none := by
    rw [hB, List.nil_append] at ha
    exact nB a ha
  have haS : a ∉ S := c2.dj a ha
  have haA : a ∉ A := c1.fresh hn
  obtain ⟨xs, g1, g2⟩ := c2.at_ m a _ h1 h2
  have k1 := c1.kept kp
  have nt : ∀ b ys, H' b = some (.tup ys) → b ∉ A := fun b ys h => k1.no_tup h
  have nt2 : ∀ b ys, H' b = some (.tup ys) → b ∉ A ++ [a] := fun b ys h hm => by
    rcases List.mem_append.mp hm with hm | hm
    · exact nt b ys h hm
    · rw [List.mem_singleton] at hm
      subst hm
      rw [g1] at h
      cases h
  have ex : Ext A H (A ++ [a]) H' := ⟨⟨[a], rfl, fun b hb => by rw [List.mem_singleton] at hb; rw [hb]; exact hn⟩, fun b o _ h => kp b o h, e2.trk⟩
  refine ⟨hn, ex, ⟨by rw [List.length_append, List.length_append, c1.len] <;> rfl, ?_, ?_, ?_, ?_⟩, xs, g1, RepL.re nt es hb g2⟩
  · refine List.nodup_append.mpr ⟨c1.nd, by simp, fun b hb c hc => ?_⟩
    rw [List.mem_singleton] at hc
    subst hc
    exact fun q => haA (q ▸ hb)
  · intro b hb
    rcases List.mem_append.mp hb with hb | hb
    · exact c1.dj b hb
    · rw [List.mem_singleton] at hb
      subst hb
      exact haS
  · exact fun b hb => c2.as b hb
  · intro n b w q1 q2
    by_cases hn2 : n < A.length
    · rw [List.getElem?_append_left hn2] at q1
      rw [List.getElem?_append_left (by rw [← c1.len]; exact hn2)] at q2
      exact (c1.at_ n b w q1 q2).mono ex.mo (kp b)
    · have hn3 : n = A.length := by
        have := (List.getElem?_eq_some_iff.mp q1).1
        rw [List.length_append] at this
        simp at this
        omega
      subst hn3
      rw [List.getElem?_append_right (Nat.le_refl _), Nat.sub_self] at q1
      rw [c1.len, List.getElem?_append_right (Nat.le_refl _), Nat.sub_self] at q2
      simp at q1 q2
      subst q1
      subst q2
      exact ⟨xs, g1, RepL.re nt2 es hb g2⟩
end
/-- the new list may be changed by the caller -/
def lentC (W : ZRC) : ZRC := fun ds Δ P => Z.belowL 0 (ds.map (Z.thaw Δ)) = true ∧ W (ds.map (Z.thaw Δ)) [] fun d Δ' => ∃ m es, d = .cell m ∧ Δ'[m]? = some (.lst es) ∧ bareTs es = true ∧ P (.cell Δ.length) (Δ ++ [.lst es])
/-- the caller never changes the new list -/
def lentF (W : ZRC) : ZRC := fun ds Δ P => Z.belowL 0 (ds.map (Z.thaw Δ)) = true ∧ W (ds.map (Z.thaw Δ)) [] fun d Δ' => ∃ m es, d = .cell m ∧ Δ'[m]? = some (.lst es) ∧ bareTs es = true ∧ P (.lst es) Δ
def zCallBC (W : ZRC) (za : ZA) : ZE := fun Γ Δ P => za Γ Δ fun ds Δ1 => lentC W ds Δ1 P
def zCallBF (W : ZRC) (za : ZA) : ZE := fun Γ Δ P => za Γ Δ fun ds Δ1 => lentF W ds Δ1 P
section
variable {C : CI} {X : Cx} {e : Expr} {es : List Expr} {za : ZA} {pos p : Pos} {x : Str} {k : Nat} {f : Addr} {fd : FuncData} {ps : List Str} {W : ZRC}
theorem ref_callBC {K : PySem.W.Frag} {ta : TA} {E : XK} (ha : RefA K C ta za) : RefE K C (tCall (SpZ K C W) [] E ta) (zCallBC W za) := fun S A σ H Γ Δ P Q hs hc hz k =>
  ha S A σ H Γ Δ _ _ hs hc hz fun vs ds A1 H1 Δ1 e1 c1 r1 p => by
    obtain ⟨hb, p⟩ := p
    refine ⟨S, [], [], ds.map (Z.thaw Δ1), _, ?_, ⟨rfl, .nil, (fun a ha => nomatch ha), c1.as, (fun n a o h => nomatch h)⟩, p, fun v d A' H' Δ' e2 c2 r2 p2 => ?_⟩
    · rw [List.append_nil]; exact RepL.thw c1 ds hb r1
    · obtain ⟨m, es, rfl, h2, hb2, p2⟩ := p2
      cases r2 with
      | cell h1 =>
        rename_i a
        obtain ⟨q1, q2, q3, _⟩ := c1.adopt e2 c2 h1 h2 hb2
        refine k _ _ (A1 ++ [a]) H' _ (e1.trans q2) q3 (.cell ?_) p2
        rw [← c1.len, List.getElem?_append_right (Nat.le_refl _), Nat.sub_self]
        rfl
theorem ref_callBF {K : PySem.W.Frag} {ta : TA} {E : XK} (ha : RefA K C ta za) : RefE K C (tCall (SpZ K C W) [] E ta) (zCallBF W za) := fun S A σ H Γ Δ P Q hs hc hz k =>
  ha S A σ H Γ Δ _ _ hs hc hz fun vs ds A1 H1 Δ1 e1 c1 r1 p => by
    obtain ⟨hb, p⟩ := p
    refine ⟨S, [], [], ds.map (Z.thaw Δ1), _, ?_, ⟨rfl, .nil, (fun a ha => nomatch ha), c1.as, (fun n a o h => nomatch h)⟩, p, fun v d A' H' Δ' e2 c2 r2 p2 => ?_⟩
    · rw [List.append_nil]; exact RepL.thw c1 ds hb r1
    · obtain ⟨m, es, rfl, h2, hb2, p2⟩ := p2
      cases r2 with
      | cell h1 =>
        rename_i a
        obtain ⟨q1, q2, q3, xs, q4, q5⟩ := c1.adopt e2 c2 h1 h2 hb2
        have kp : ∀ a o, H1 a = some o → H' a = some o := fun a o h => e2.keep a o (fun q => nomatch q) h
        exact k _ _ A1 H' Δ1 (e1.trans (Ext.kept kp)) (c1.kept kp) (.lst q4 (c1.fresh q1) (c2.dj a (List.mem_of_getElem? h1)) q5) p2
theorem ez_callbC (F : FnOk X.prog X.w X.K X.mg X.base CX0 k f fd ps (SpZ X.K C W)) (hr : Room k X.A) (hm : X.mg x = some (.ref f)) (hk : PySem.W.keepIn X.K (.ref f) = true) (hb : Binds X.K fd ps [])
    (ha : AZ C X (e :: es) za) (hg : Gl X x := by rfl) (hdb : (x == ("__debug__" : Str)) = false := by decide) (he : starEach (e :: es) X.env = (false, eval e X.env) :: starEach es X.env := by rfl) (hpl : (backTo pos (starEach es X.env)).any (·.1) = false := by rfl) :
    EZ C X (.Call (.Name x p) (e :: es) [] pos) (zCallBC W za) := by
  obtain ⟨t, a1, a2⟩ := ha.ex
  exact ⟨_, pe_call F hr hg hm hk hb .nil pass0 a1 hdb he hpl, ref_callBC a2⟩
theorem ez_callbF (F : FnOk X.prog X.w X.K X.mg X.base CX0 k f fd ps (SpZ X.K C W)) (hr : Room k X.A) (hm : X.mg x = some (.ref f)) (hk : PySem.W.keepIn X.K (.ref f) = true) (hb : Binds X.K fd ps [])
    (ha : AZ C X (e :: es) za) (hg : Gl X x := by rfl) (hdb : (x == ("__debug__" : Str)) = false := by decide) (he : starEach (e :: es) X.env = (false, eval e X.env) :: starEach es X.env := by rfl) (hpl : (backTo pos (starEach es X.env)).any (·.1) = false := by rfl) :
    EZ C X (.Call (.Name x p) (e :: es) [] pos) (zCallBF W za) := by
  obtain ⟨t, a1, a2⟩ := ha.ex
  exact ⟨_, pe_call F hr hg hm hk hb .nil pass0 a1 hdb he hpl, ref_callBF a2⟩
end
/-! ### a def that is never called -/
theorem fn_never {P : Program} {w : World} {K : PySem.W.Frag} {mg : Str → Option Value} {base : Heap} {C : CI} {k : Nat} {f : Addr} {fd : FuncData} {ps : List Str} : FnOk P w K mg base CX0 k f fd ps (SpZ K C fun _ _ _ => False) :=
  ⟨fun _ _ _ _ h => by obtain ⟨_, _, _, _, _, _, _, h, _⟩ := h; exact h.elim, fun _ _ _ _ _ _ _ _ _ _ _ _ _ h => by obtain ⟨_, _, _, _, _, _, _, h, _⟩ := h; exact h.elim⟩
/-! ### list(range(..)) -/
section
variable {C : CI} {X : Cx} {a b : Expr} {za zb : ZE} {p p2 pos pos2 : Pos}
def zLstR1 (za : ZE) : ZE := fun Γ Δ P => za Γ Δ fun x Δ1 => ∃ n : Int, x = .int n ∧ RgOk 0 n ∧ P (.lst (rangeD 0 n)) Δ1
def zLstR2 (za zb : ZE) : ZE := fun Γ Δ P => za Γ Δ fun x Δ1 => zb Γ Δ1 fun y Δ2 => ∃ i j : Int, x = .int i ∧ y = .int j ∧ RgOk i j ∧ P (.lst (rangeD i j)) Δ2
theorem rep_rg {K : PySem.W.Frag} {S A : List Addr} {H : Hp} (lo : Int) : ∀ (l : List Nat), RepL K C S A H (l.map fun (i : Nat) => V.int (lo + (i : Int))) (l.map fun (i : Nat) => D.int (lo + (i : Int)))
  | [] => .nil
  | _ :: l => .cons (.int _) (rep_rg lo l)
theorem ez_lstR1 (hm : X.mg "list" = none) (hm2 : X.mg "range" = none) (ha : EZ C X a za) (hc : X.calm = true := by rfl) (hg : Gl X "list" := by rfl) (hg2 : Gl X "range" := by rfl) (na : starEach [a] X.env = (false, eval a X.env) :: starEach [] X.env := by rfl)
    (nb : starEach [.Call (.Name "range" p2) [a] [] pos2] X.env = (false, eval (.Call (.Name "range" p2) [a] [] pos2) X.env) :: starEach [] X.env := by rfl) : EZ C X (.Call (.Name "list" p) [.Call (.Name "range" p2) [a] [] pos2] [] pos) (zLstR1 za) := by
  obtain ⟨t, a1, a2⟩ := ha.ex
  refine ⟨_, pe_listRg hc hg hm (prg_1 hg2 hm2 a1 na) nb, fun S A σ H Γ Δ P Q hs hc hz k => a2 S A σ H Γ Δ _ _ hs hc hz fun x dx A1 H1 Δ1 e1 c1 r1 hz1 => ?_⟩
  obtain ⟨n, rfl, ok, q⟩ := hz1
  cases r1
  refine ⟨n, rfl, ok, fun p hp => ?_⟩
  exact k _ _ A1 _ Δ1 (e1.trans (Ext.new hp)) (c1.new hp) (.lst upd_same (c1.fresh hp) (c1.aside hp) (rep_rg _ _)) q
theorem ez_lstR2 (hm : X.mg "list" = none) (hm2 : X.mg "range" = none) (ha : EZ C X a za) (hb : EZ C X b zb) (hc : X.calm = true := by rfl) (hg : Gl X "list" := by rfl) (hg2 : Gl X "range" := by rfl) (na : starEach [a, b] X.env = (false, eval a X.env) :: starEach [b] X.env := by rfl) (na2 : starEach [b] X.env = (false, eval b X.env) :: starEach [] X.env := by rfl) (hpl : (backTo pos2 (starEach [b] X.env)).any (·.1) = false := by rfl)
    (nb : starEach [.Call (.Name "range" p2) [a, b] [] pos2] X.env = (false, eval (.Call (.Name "range" p2) [a, b] [] pos2) X.env) :: starEach [] X.env := by rfl) : EZ C X (.Call (.Name "list" p) [.Call (.Name "range" p2) [a, b] [] pos2] [] pos) (zLstR2 za zb) := by
  obtain ⟨t, a1, a2⟩ := ha.ex
  obtain ⟨u, b1, b2⟩ := hb.ex
  refine ⟨_, pe_listRg hc hg hm (prg_2 hg2 hm2 a1 b1 na na2 hpl) nb, fun S A σ H Γ Δ P Q hs hc hz k => a2 S A σ H Γ Δ _ _ hs hc hz fun x dx A1 H1 Δ1 e1 c1 r1 hz1 => b2 S A1 σ H1 Γ Δ1 _ _ (hs.ext e1) c1 hz1 fun y dy A2 H2 Δ2 e2 c2 r2 hz2 => ?_⟩
  obtain ⟨i, j, rfl, rfl, ok, q⟩ := hz2
  cases r1
  cases r2
  refine ⟨i, j, rfl, rfl, ok, fun p hp => ?_⟩
  exact k _ _ A2 _ Δ2 ((e1.trans e2).trans (Ext.new hp)) (c2.new hp) (.lst upd_same (c2.fresh hp) (c2.aside hp) (rep_rg _ _)) q
end
end Z

/-! Z18: ==, != and repr of lists in which cells stand. -/
namespace Z
open PySem PySem.Spec PyProof.Rows L2
theorem nd_t {p : Prop} [Decidable p] : ((!decide p) = true) = ¬ p := by by_cases h : p <;> simp [h]
theorem nd_f {p : Prop} [Decidable p] : ((!decide p) = false) = p := by by_cases h : p <;> simp [h]
/-- what a value is, down to a depth: cells by their contents -/
def rdk (Δ : Store) : Nat → D → D
  | 0, d => d
  | k + 1, .cell n => match Δ[n]? with
    | some (.lst ds) => .lst (ds.map (rdk Δ k))
    | _ => .cell n
  | k + 1, .lst ds => .lst (ds.map (rdk Δ k))
  | k + 1, .tup ds => .tup (ds.map (rdk Δ k))
  | _ + 1, .scr ns => .lst (ns.map D.int)
  | _ + 1, .non => .non
  | _ + 1, .bl b => .bl b
  | _ + 1, .int i => .int i
  | _ + 1, .str x => .str x
  | _ + 1, .ty n => .ty n
  | _ + 1, .ins c ds => .ins c ds
  | _ + 1, .cls c => .cls c
  | _ + 1, .dct ks ds => .dct ks ds
section
variable {K : PySem.W.Frag} {C : CI} {S A : List Addr} {H : Hp} {Δ : Store}
theorem dps_map {f : D → D} (hf : ∀ (d : D) (v : V), Rep K C S A H v d → plainD (f d) = true → Dp K H v (pd (f d))) : ∀ {ds : List D} {vs : List V}, RepL K C S A H vs ds → plainDs (ds.map f) = true → DpAll K H vs (pds (ds.map f))
  | _, _, .nil, _ => .nil
  | _, _, .cons (d := d) (ds := ds) h r, q => by
    have h' : (plainD (f d) && plainDs (ds.map f)) = true := q
    rw [Bool.and_eq_true] at h'
    exact .cons (hf _ _ h h'.1) (dps_map hf r h'.2)
theorem dp_rdk (hc : Cells K C S A H Δ) : ∀ (k : Nat) (d : D) (x : V), Rep K C S A H x d → plainD (rdk Δ k d) = true → Dp K H x (pd (rdk Δ k d))
  | 0, d, x, r, h => Rep.dp d h r
  | k + 1, d, x, r, h => by
    have ih := dp_rdk hc k
    cases r with
    | cell e =>
      rename_i a n
      unfold rdk at h ⊢
      cases q : Δ[n]? with
      | none => simp only [q] at h; cases h
      | some o =>
        cases o with
        | ins _ _ => simp only [q] at h; cases h
        | dct _ _ => simp only [q] at h; cases h
        | lst ds =>
          simp only [q] at h ⊢
          obtain ⟨xs, h1, h2⟩ := hc.at_ n a _ e q
          exact .lst (SqL.of h1) (dps_map (fun d v => ih d v) h2 h)
    | scr e =>
      rename_i a ns
      unfold rdk at h ⊢
      refine .lst ?_ (pds_ints ns)
      rcases e with ⟨⟨o, e⟩, _⟩ | e
      · exact .inl (.inr ⟨o, e⟩)
      · exact .inr e
    | non => exact .non
    | bl b => exact .bl b
    | int i => exact .int i
    | str x => exact .str x
    | ty n => cases h
    | cls n => cases h
    | tup h1 h2 h3 r => unfold rdk at h ⊢; exact .tup (SqT.of h1) (dps_map (fun d v => ih d v) r h)
    | lst h1 h2 h3 r => unfold rdk at h ⊢; exact .lst (SqL.of h1) (dps_map (fun d v => ih d v) r h)
    | ins _ _ _ _ _ => cases h
    | dct _ _ _ _ _ => cases h
end
def zEqD : ZR2 := fun x y Δ P => shp (rdk Δ 3 x) = true ∧ shp (rdk Δ 3 y) = true ∧ P (.bl (eqD (rdk Δ 3 x) (rdk Δ 3 y))) Δ
def zNeD : ZR2 := fun x y Δ P => shp (rdk Δ 3 x) = true ∧ shp (rdk Δ 3 y) = true ∧ P (.bl (!eqD (rdk Δ 3 x) (rdk Δ 3 y))) Δ
def zReprD : ZRC := fun ds Δ P => ∃ d, ds = [d] ∧ Showable (rdk Δ 3 d) ∧ P (.str (pd (rdk Δ 3 d)).shown) Δ
section
variable {C : CI} {X : Cx}
theorem oz_eqD (hu : X.A.units + 64 < cLine) : OpZ C X (compareOp .Eq) zEqD := ⟨_, op_eqD hu, fun S A H Δ x y dx dy P Q hc rx ry hz k => by
  obtain ⟨h1, h2, p⟩ := hz
  have g1 := Bool.and_eq_true_iff.mp h1
  have g2 := Bool.and_eq_true_iff.mp h2
  exact ⟨_, _, dp_rdk hc 3 dx x rx g1.1, dp_rdk hc 3 dy y ry g2.1, g1.2, g2.2, k _ _ A H Δ (Ext.refl _ _) hc (.bl _) p⟩⟩
theorem oz_neD (hu : X.A.units + 64 < cLine) : OpZ C X (compareOp .NotEq) zNeD := ⟨_, op_neD hu, fun S A H Δ x y dx dy P Q hc rx ry hz k => by
  obtain ⟨h1, h2, p⟩ := hz
  have g1 := Bool.and_eq_true_iff.mp h1
  have g2 := Bool.and_eq_true_iff.mp h2
  exact ⟨_, _, dp_rdk hc 3 dx x rx g1.1, dp_rdk hc 3 dy y ry g2.1, g1.2, g2.2, k _ _ A H Δ (Ext.refl _ _) hc (.bl _) p⟩⟩
theorem cz_reprD (gd : X.A.guards = some []) (hu : X.A.units + 64 < cLine) : CallZ C X (.builtin "repr") zReprD := ⟨_, cr_repr gd hu, fun S A H Δ xs ds P Q hc r hz k => by
  obtain ⟨d, rfl, sh, q⟩ := hz
  obtain ⟨v, rfl, rv⟩ := one_rep r
  exact ⟨v, rdk Δ 3 d, rfl, dp_rdk hc 3 d v rv sh.pl, sh, k _ _ A H Δ (Ext.refl _ _) hc (.str _) q⟩⟩
end
end Z

/-! Z19: len of a set comprehension of ints. -/
namespace Z
open PySem PySem.Spec PyProof.Rows L2
section
variable {X : Cx}
/-- an int goes into the set at a -/
theorem put_set {pins : List (Addr × Obj)} {σ : L2.St} {H : Hp} {z : Shared} {EE : Value → Shared → Prop} {a : Addr} {M : Int → Bool} {c : Nat} {i : Int} {ti : Tok} {R : Value → Shared → Prop} (J : Inv X pins σ H z) (ha : H a = some (SetO X.w a M c)) (few : c + 1 < scanBound)
    (k : ∀ z2, Inv X pins σ (upd H a (SetO X.w a (fun j => M j || decide (j = i)) (if M i = true then c else c + 1))) z2 → R .none z2) : wpAny (model X.prog X.w) X.A (call (.builtin "set.add") [.ref a, .int i ti]) R EE z := by
  refine setR_add (setO_get J ha) few fun g same made => ?_
  have here : ∃ ob, g.get? a = some ob := made.elim fun ob h => h.elim fun _ h => h.elim fun _ h => h.elim fun _ h => ⟨ob, h.1⟩
  exact k _ (J.write (e := a) (t' := z.toks + 1) (by rw [ha]; trivial) (.inl rfl) (fun b u nb hu => (same.2 b nb).trans hu) here (setO_new made))
/-- {elt for tg in iter if ..}, elt an int: a is the new set -/
def tSI (w : World) (wi : TI) (g : TG) (tt : TT) (te : TE) (vs : List Nat) : TE := fun σ H Q => wi σ H fun J H1 => ∀ a, H1 a = none → ∃ V : Nat → Nat → Hp → Prop, (∃ m, V 0 m (upd H1 a (SetO w a (fun _ => false) 0))) ∧
  ∀ i m H, V i m H → (J.stop i H ∧ Q (.ref a) H) ∨ (J.go i H ∧ ∃ F : Hp → Prop, (∀ H', F H' → ∃ m', m' < m ∧ V (i + 1) m' H') ∧
    ∀ x H', J.yld i H x H' → g x (wipe σ vs) H' fun σ2 H2 => wipe σ2 vs = wipe σ vs ∧ tt σ2 H2 fun b H3 =>
      if b = true then te σ2 H3 fun y H4 => ∃ (k : Int) (M : Int → Bool) (c : Nat), y = .int k ∧ H4 a = some (SetO w a M c) ∧ c + 1 < scanBound ∧ F (upd H4 a (SetO w a (fun j => M j || decide (j = k)) (if M k = true then c else c + 1))) else F H3)
theorem peSI {elt tg iter : Expr} {ifs : List Expr} {sc : Scope} {own : List (PySem.Str × Nat)} {pos : Pos} {wi : TI} {g : TG} {tt : TT} {te : TE} (calm : X.calm = true) (nodup : X.N.Nodup) (hi : PI X tg iter wi) (ok : BlkOk X.N X.env.scope sc own)
    (pg : ∀ (z : Shared) (H : Hp) (Ca : Addr) (cl : List (PySem.Str × Addr)) (fp : List Addr), PG (X.blk z H sc (compEnvC sc cl Ca X.env) fp) tg g)
    (pt : ∀ (z : Shared) (H : Hp) (Ca : Addr) (cl : List (PySem.Str × Addr)) (fp : List Addr), PTs (X.blk z H sc (compEnvC sc cl Ca X.env) fp) ifs tt)
    (pe : ∀ (z : Shared) (H : Hp) (Ca : Addr) (cl : List (PySem.Str × Addr)) (fp : List Addr), PE (X.blk z H sc (compEnvC sc cl Ca X.env) fp) elt te) (plain : ∀ x, foldedSetIterable iter X.env x = pure x := by intro _; rfl) :
    PE X (.SetComp elt [⟨tg, iter, ifs, 0⟩] sc pos) (tSI X.w wi g tt te (own.map (·.2))) := by
  refine ⟨fun pins z σ H Q J want => ?_⟩
  rw [PpSet.eval_SetComp]
  have free : ∀ y ∈ sc.names, y.2 = .free → ∃ c, X.env.cells.lookup y.1 = some c := fun y hy e => (ok.free y hy e).elim (fun k => J.ok.has _ (.inl k)) fun k => J.ok.has _ (.inr k)
  refine wpAny_comprehension_free rfl plain (closure_ok free) ok.kind (fun y hy e => by rw [ok.uniq y hy]; rw [e]) (thn (hi.run pins z σ H _ J want) fun xv z1 h1 => thn h1 fun itv z2 h2 => ?_)
  obtain ⟨it, fp, tn, W, H2, e, J2, T, at0, far, q⟩ := h2
  subst e
  refine PpSet.newSet_ok (newEnv_comp ?_)
  -- the new set
  generalize ea : z2.heap.objs.size = a
  have na : H2 a = none := J2.hok.fresh (Nat.le_of_eq ea)
  obtain ⟨V, ⟨m0, v0⟩, turn⟩ := q a na
  generalize ez3 : ({ z2 with heap := z2.heap.push { cls := .type "set", dict := none, data := .set #[] 0 (.fresh 0 0 (!X.w.params.followText "set-order")) } } : Shared) = z3
  have hp3 : z3.heap = z2.heap.push { cls := .type "set", dict := none, data := .set #[] 0 (.fresh 0 0 (!X.w.params.followText "set-order")) } := by rw [← ez3]
  have J3 : Inv X pins σ (upd H2 a (SetO X.w a (fun _ => false) 0)) z3 := by
    rw [← ez3]
    refine J2.laid (t' := z2.toks) (fun _ _ old => Heap.get?_push_of_some _ old) (Nat.le_of_eq ea) ?_
    rw [← ea]
    exact setO_new (setR_fresh X.w)
  have low : ∀ b ∈ fp, b < z2.heap.objs.size := fun b hb => (T.obj _ _ at0 b hb).elim fun _ h => Heap.lt_size h.1
  have far3 : ∀ b ∈ fp, FpOk X pins (upd H2 a (SetO X.w a (fun _ => false) 0)) b ∧ b < z3.heap.objs.size := fun b hb => by
    have l := low b hb
    have ne : b ≠ a := by rw [← ea]; exact Nat.ne_of_lt l
    exact ⟨⟨by rw [upd_ne ne]; exact (far b hb).1, (far b hb).2⟩, by rw [hp3, Heap.size_push]; exact Nat.lt_succ_of_lt l⟩
  have at3 : tn 0 z3.heap := T.keep _ _ _ at0 fun _ _ _ old => by rw [hp3]; exact Heap.get?_push_of_some _ old
  generalize eH : upd H2 a (SetO X.w a (fun _ => false) 0) = H3 at J3 far3 v0
  have J4 := block_start J3 ok nodup far3
  generalize ecl : cellsFrom (z3.heap.objs.size + 1) sc.names (cloFrom X.env.cells sc.names []) = cl at J4 ⊢
  replace pg := pg z3 H3 z3.heap.objs.size cl fp
  replace pt := pt z3 H3 z3.heap.objs.size cl fp
  replace pe := pe z3 H3 z3.heap.objs.size cl fp
  have none3 : ∀ b ∈ fp, H3 b = none := fun b hb => (far3 b hb).1.1
  show codeAny _ _ (.compStart (.SetComp elt [⟨tg, iter, ifs, 0⟩] sc pos) 0 (.ref it) (.ref a) (compEnvC sc cl z3.heap.objs.size X.env)) (compPost (model X.prog X.w) X.A X.xe none (EP X pins σ Q) (.ref a) z3.heap.objs.size) { z3 with heap := pushCells (z3.heap.push { cls := .type "dict", data := .dict #[] }) sc.names }
  generalize ece : compEnvC sc cl z3.heap.objs.size X.env = ce at J4 pg pt pe ⊢
  have lc : ce.locals = z3.heap.objs.size := by rw [← ece]; rfl
  generalize ez4 : ({ z3 with heap := pushCells (z3.heap.push { cls := .type "dict", data := .dict #[] }) sc.names } : Shared) = z4 at J4 ⊢
  have at4 : tn 0 z4.heap := T.keep _ _ _ at3 fun _ _ _ old => by rw [← ez4]; exact pushCells_keeps _ _ _ _ (Heap.get?_push_of_some _ old)
  have stays : ∀ {σ' : L2.St} {H' : Hp} {z' : Shared}, Inv (X.blk z3 H3 sc ce fp) [] σ' H' z' → (∀ b ∈ fp, H' b = none) → ∀ b ∈ fp, FpOk (X.blk z3 H3 sc ce fp) [] H' b := fun {σ' H' z'} J' no b hb =>
    ⟨no b hb, (J'.ok.exf b hb).1, J'.ok.exfs b hb, .inl hb, fun x c e => (J'.ok.exf b hb).2 x c e, fun p hp => absurd (show p ∈ ([] : List (Addr × Obj)) ++ [] from hp) (by simp)⟩
  have walk : codeAny (model X.prog X.w) X.A (.compLoop (.SetComp elt [⟨tg, iter, ifs, 0⟩] sc pos) 0 (.ref it) (.ref a) ce) (compPost (model X.prog X.w) X.A X.xe none (EP X pins σ Q) (.ref a) z3.heap.objs.size) z4 := by
    refine PpSet.compLoopS_any (fun m z' => ∃ i H', Inv (X.blk z3 H3 sc ce fp) [] (wipe σ (own.map (·.2))) H' z' ∧ tn i z'.heap ∧ (∀ b ∈ fp, H' b = none) ∧ V i m H') ?_ m0 ⟨0, H3, J4, at4, none3, v0⟩
    rintro m z5 ⟨i, H5, J5, at5, no5, v5⟩
    rcases turn i m H5 v5 with ⟨stop, done⟩ | ⟨go, F, hF, step⟩
    · refine thnF (T.done (X.blk z3 H3 sc ce fp) rfl rfl rfl calm i [] z5 _ H5 (fun _ _ => False) J5 (stays J5 no5) at5 stop) fun r z6 ⟨er, J6⟩ => ?_
      subst er
      have J7 : Inv X pins σ H5 z6 := J3.call' (ch := fp) J6.os J6.base J6.hok J6.bare fun b hb => ⟨(far3 b hb).1.2.2.2.1, (far3 b hb).1.2.1, (far3 b hb).1.2.2.2.2.1, (far3 b hb).1.2.2.2.2.2⟩
      have nl : H5 z3.heap.objs.size = none := lc ▸ (show H5 ce.locals = none from J6.free)
      obtain ⟨m', hm', _⟩ := J6.loc
      refine ⟨m', lc ▸ (show z6.heap.Ns ce.locals m' from hm'), fun g2 same => ?_⟩
      obtain ⟨f0, f1, f2, f3, f4, f5⟩ := J3.fpOk (Nat.le_refl _) nl
      exact ⟨.ref a, H5, J7.turned (t' := z6.toks) (fun b o nb old => (same.2 b nb).trans old) f0 f1 f3 f4 f5, rfl, done⟩
    · refine thnF (T.item (X.blk z3 H3 sc ce fp) rfl rfl rfl calm i [] z5 _ H5 (fun _ _ => False) J5 (stays J5 no5) at5 go) fun r z6 ⟨u, er, h6⟩ => ?_
      subst er
      refine thnF h6 fun _ z7 ⟨x, H7, J7, r7, y7, at7, no7⟩ => ?_
      have J8 := J7.pinned (stays J7 no7) (T.obj _ _ at7)
      refine thnF (pg.run _ z7 _ H7 x u _ J8 r7 (step x H7 y7)) fun _ z8 ⟨σ8, H8, J9, same8, q8⟩ => thnF (pt.run _ z8 σ8 H8 _ J9 q8) fun b z9 ⟨H9, J10, w9⟩ => ?_
      have ends : ∀ {z' : Shared} {H' : Hp}, Inv (X.blk z3 H3 sc ce fp) ([] ++ pinsAt fp z7.heap) σ8 H' z' → F H' → ∃ m', m' < m ∧ ∃ i H', Inv (X.blk z3 H3 sc ce fp) [] (wipe σ (own.map (·.2))) H' z' ∧ tn i z'.heap ∧ (∀ b ∈ fp, H' b = none) ∧ V i m' H' := fun {z' H'} J' f => by
        obtain ⟨m', less, v'⟩ := hF H' f
        have pin : ∀ b ∈ fp, ∀ o, z7.heap.get? b = some o → z'.heap.get? b = some o ∧ H' b = none := fun b hb o e => by
          have w := J'.pin (b, o) (List.mem_append_right _ (List.mem_append_right _ (mem_pinsAt hb e)))
          exact ⟨w.1, w.2.1⟩
        refine ⟨m', less, i + 1, H', (J'.unpinned (pins := [])).weak (by rw [← same8, wipe_length]) (fun j v e => (wipe_some (by rw [← same8] at e; exact e)).1), T.keep _ _ _ at7 fun b hb o e => (pin b hb o e).1, fun b hb => ?_, v'⟩
        obtain ⟨o, e, _⟩ := T.obj _ _ at7 b hb
        exact (pin b hb o e).2
      cases b with
      | false =>
        rw [if_neg Bool.false_ne_true] at w9
        show if false = true then _ else _
        rw [if_neg Bool.false_ne_true]
        exact ends J10 w9
      | true =>
        rw [if_pos rfl] at w9
        show if true = true then _ else _
        rw [if_pos rfl]
        refine thnF (pe.run _ z9 σ8 H9 _ J10 w9) fun v z10 ⟨yv, H10, J11, r10, k, M, c, ey, ha, few, f⟩ => ?_
        subst ey
        obtain ⟨tk, ev⟩ := (show ∃ t, v = Value.int k t from r10)
        subst ev
        exact put_set (X := X.blk z3 H3 sc ce fp) J11 ha few fun z11 J12 => ends J12 f
  exact PpSet.codeAny_compStart_set walk (T.self X.A 0 _ _ _ at4 walk)
/-- len of a set of ints -/
def rLenS (w : World) : List V → Hp → VK → Prop := fun xs H Q => ∃ (a : Addr) (M : Int → Bool) (c : Nat), xs = [.ref a] ∧ H a = some (SetO w a M c) ∧ ∀ ks : List Int, ks.Nodup → (∀ k, k ∈ ks ↔ M k = true) → Q (.int (ks.length : Nat)) H
theorem cr_lenS : CallR X (.builtin "len") (rLenS X.w) := by
  rintro pins z σ H _ us Q J r ⟨a, M, c, rfl, ha, q⟩
  rw [Vals.ref1 r]
  obtain ⟨o, es, ep, t, ho, hex, hd, g, nd, hm, hb, hf, hn, _⟩ := setO_get J ha
  have few : es.size < 2 ^ 60 := Nat.lt_trans hb (by unfold scanBound; decide)
  refine call_len_set ho hex hd hf (by omega) ⟨.int _, H, J.tok _, ⟨_, rfl⟩, ?_⟩
  have := q (es.toList.map keyOf) nd fun k => (hm k).symm
  rw [List.length_map, Array.length_toList] at this
  exact this
end
/-! ### the reading -/
def compS (zg : ZG) (zt : ZT) (ze : ZE) (Γ0 : Env) (P : List Int → Store → Prop) : List D → List Int → Store → Prop
  | [], acc, Δ => P acc Δ
  | x :: xs, acc, Δ => zg x Γ0 Δ fun Γ2 Δ2 => zt Γ2 Δ2 fun b Δ3 => (b = true → ze Γ2 Δ3 fun y Δ4 => ∃ k : Int, y = .int k ∧ acc.length < 4000 ∧ compS zg zt ze Γ0 P xs (acc ++ [k]) Δ4) ∧ (b = false → compS zg zt ze Γ0 P xs acc Δ3)
/-- len({elt for tg in iter if ..}) -/
def zLenS (zi : ZI) (zg : ZG) (zt : ZT) (ze : ZE) (vs : List Nat) : ZE := fun Γ Δ P => zi Γ Δ fun items Δ1 => compS zg zt ze (wipeZ Γ vs) (fun ns Δ2 => ∀ ks : List Int, ks.Nodup → (∀ k, k ∈ ks ↔ k ∈ ns) → P (.int (ks.length : Nat)) Δ2) items [] Δ1
section
variable {K : PySem.W.Frag} {C : CI} {S A : List Addr} {H : Hp} {Δ : Store} {q : Addr}
theorem cells_aside {o : HO} (c : Cells K C (q :: S) A H Δ) : Cells K C (q :: S) A (upd H q o) Δ ∧ Mo (q :: S) A H (q :: S) A (upd H q o) := by
  have mo : Mo (q :: S) A H (q :: S) A (upd H q o) := ⟨⟨[], by simp, by simp⟩, fun _ h => .inl h, fun a u _ h2 h3 => by
    rw [upd_ne (fun h => h2 (by rw [h]; exact List.mem_cons_self))]; exact h3⟩
  have hq : q ∉ A := fun h => c.dj q h List.mem_cons_self
  refine ⟨⟨c.len, c.nd, c.dj, fun a ha h => ?_, fun n a u h1 h2 => (c.at_ n a u h1 h2).mono mo fun w h => ?_⟩, mo⟩
  · by_cases hb : a = q
    · subst hb; rw [upd_same] at h; cases h
    · rw [upd_ne hb] at h; exact c.as a ha h
  · rw [upd_ne (fun hb => hq (by rw [← hb]; exact List.mem_of_getElem? h1))]; exact h
theorem ref_lenS {w : World} {wi : TI} {g : TG} {tt : TT} {te : TE} {vs : List Nat} {zi : ZI} {zg : ZG} {zt : ZT} {ze : ZE} (hi : RefI K C wi zi) (hg : RefG K C g zg) (ho : Own g vs) (ht : RefT K C tt zt) (he : RefE K C te ze) :
    RefE K C (fun σ H Q => tSI w wi g tt te vs σ H fun v H1 => rLenS w [v] H1 Q) (zLenS zi zg zt ze vs) := fun S A σ H Γ Δ P Q hs hc hz k => hi S A σ H Γ Δ _ _ hs hc hz fun J n G Y items A1 H1 Δ1 e1 c1 p hn wk hG hY q hq => by
  have s1 := hs.ext e1
  let I : Nat → Hp → Prop := fun i H2 => ∃ A2 Δ2 acc c, Ext A1 H1 A2 H2 ∧ Mo S A1 H1 (q :: S) A2 H2 ∧ Cells K C (q :: S) A2 H2 Δ2 ∧ H2 q = some (SetO w q (fun j => decide (j ∈ acc)) c) ∧ c ≤ acc.length ∧
    compS zg zt ze (wipeZ Γ vs) (fun ns Δ2 => ∀ ks : List Int, ks.Nodup → (∀ k, k ∈ ks ↔ k ∈ ns) → P (.int (ks.length : Nat)) Δ2) (items.drop i) acc Δ2
  have i0 : I 0 (upd H1 q (SetO w q (fun _ => false) 0)) := by
    have mo0 : Mo S A1 H1 (q :: S) A1 (upd H1 q (SetO w q (fun _ => false) 0)) := ⟨⟨[], by simp, by simp⟩, fun b hb => by
      rcases List.mem_cons.mp hb with rfl | hb
      · exact .inr hq
      · exact .inl hb, fun a o _ _ h => by rw [upd_ne (ne_of_none h hq)]; exact h⟩
    refine ⟨A1, Δ1, [], 0, Ext.new hq, mo0, ⟨c1.len, c1.nd, fun a ha hb => ?_, fun a ha h => ?_, fun n a o h1 h2 => (c1.at_ n a o h1 h2).mono mo0 fun u h => by rw [upd_ne (ne_of_none h hq)]; exact h⟩, ?_, Nat.le_refl _, p⟩
    · rcases List.mem_cons.mp hb with rfl | hb
      · exact c1.fresh hq ha
      · exact c1.dj a ha hb
    · rcases List.mem_cons.mp ha with rfl | ha
      · rw [upd_same] at h; cases h
      · exact c1.as a ha ((Ext.new (A := A1) hq).trk a h)
    · have e : (fun j : Int => decide (j ∈ ([] : List Int))) = fun _ => false := by funext j; simp
      rw [e]; exact upd_same
  refine ⟨fun i m H2 => m = n - i ∧ i ≤ n ∧ I i H2, ⟨n, by simp, Nat.zero_le _, i0⟩, ?_⟩
  rintro i m H2 ⟨rfl, hin, A2, Δ2, acc, c, e2, m2, c2, hqv, hca, p2⟩
  have gg := hG (q :: S) A2 H2 m2
  by_cases hlt : i < n
  · refine .inr ⟨wk.goes i H2 hlt gg, I (i + 1), fun H' p' => ⟨n - (i + 1), by omega, rfl, hlt, p'⟩, fun x H3 y => ?_⟩
    obtain ⟨d, q1, q2, q3⟩ := hY (q :: S) A2 H2 Δ2 i x H3 hlt m2 c2 (wk.yields i H2 x H3 hlt gg y)
    rw [drop_cons q1] at p2
    have e3 : Ext A2 H2 A2 H3 := Ext.kept q2
    have s3 : Slots K C (q :: S) A2 H3 (wipe σ vs) (wipeZ Γ vs) := ((s1.mono m2).ext e3).wipe vs
    have fin : g x (wipe σ vs) H3 fun σ2 H4 => wipe σ2 vs = wipe (wipe σ vs) vs ∧ tt σ2 H4 fun b H5 =>
        if b = true then te σ2 H5 fun y H6 => ∃ (k : Int) (M : Int → Bool) (c : Nat), y = .int k ∧ H6 q = some (SetO w q M c) ∧ c + 1 < scanBound ∧ I (i + 1) (upd H6 q (SetO w q (fun j => M j || decide (j = k)) (if M k = true then c else c + 1)))
        else I (i + 1) H5 := by
      refine ho _ _ _ _ (hg (q :: S) A2 (wipe σ vs) H3 (wipeZ Γ vs) Δ2 x d _ _ s3 (c2.kept q2) q3 p2 fun σ4 A4 H4 Γ4 Δ4 e4 s4 c4 p4 => ?_)
      refine ht (q :: S) A4 σ4 H4 Γ4 Δ4 _ _ s4 c4 p4 fun b A5 H5 Δ5 e5 c5 p5 => ?_
      have e25 := (e3.trans e4).trans e5
      have e15 := e2.trans e25
      have hq2 : q ∉ A2 := fun h => c2.dj q h List.mem_cons_self
      have hq5 : H5 q = some (SetO w q (fun j => decide (j ∈ acc)) c) := e25.keep q _ hq2 hqv
      have m5 : Mo S A1 H1 (q :: S) A5 H5 := ⟨e15.pre, m2.sub, fun a o h1 _ h3 => e15.keep a o h1 h3⟩
      cases b with
      | false => exact iteF ⟨A5, Δ5, acc, c, e15, m5, c5, hq5, hca, p5.2 rfl⟩
      | true =>
        refine iteT (he (q :: S) A5 σ4 H5 Γ4 Δ5 _ _ (s4.ext e5) c5 (p5.1 rfl) fun y dy A6 H6 Δ6 e6 c6 r6 p6 => ?_)
        obtain ⟨k2, rfl, few, p6⟩ := p6
        cases r6
        have e16 := e15.trans e6
        have hq5' : q ∉ A5 := fun h => c5.dj q h List.mem_cons_self
        have hq6 : H6 q = some (SetO w q (fun j => decide (j ∈ acc)) c) := e6.keep q _ hq5' hq5
        have nq : ∀ a o, H1 a = some o → a ≠ q := fun a o h => ne_of_none h hq
        refine ⟨k2, _, c, rfl, hq6, by unfold scanBound; omega, A6, Δ6, acc ++ [k2], if decide (k2 ∈ acc) = true then c else c + 1, ?_, ?_, (cells_aside c6).1, ?_, ?_, p6⟩
        · exact ⟨e16.pre, fun a o h1 h2 => by rw [upd_ne (nq a o h2)]; exact e16.keep a o h1 h2, fun a h => by
            by_cases hb : a = q
            · subst hb; exact hq
            · rw [upd_ne hb] at h; exact e16.trk a h⟩
        · exact ⟨e16.pre, m2.sub, fun a o h1 _ h3 => by rw [upd_ne (nq a o h3)]; exact e16.keep a o h1 h3⟩
        · have e : (fun j : Int => decide (j ∈ acc) || decide (j = k2)) = fun j => decide (j ∈ acc ++ [k2]) := by
            funext j
            rw [Bool.eq_iff_iff]
            simp
          rw [e]
          exact upd_same
        · rw [List.length_append]
          show _ ≤ acc.length + 1
          split <;> omega
    rw [wipe_wipe] at fin
    exact fin
  · have e : i = n := by omega
    subst e
    rw [hn, List.drop_length] at p2
    refine .inl ⟨wk.stops H2 gg, q, _, c, rfl, hqv, fun ks h1 h2 => ?_⟩
    have mo8 : Mo (q :: S) A2 H2 S A2 H2 := ⟨⟨[], by simp, by simp⟩, fun b hb => .inl (List.mem_cons_of_mem _ hb), fun _ _ _ _ h => h⟩
    exact k _ _ A2 H2 Δ2 (e1.trans e2) ⟨c2.len, c2.nd, fun a ha hb => c2.dj a ha (List.mem_cons_of_mem _ hb), fun a ha => c2.as a (List.mem_cons_of_mem _ ha), fun n a o h1 h2 => (c2.at_ n a o h1 h2).mono mo8 fun _ h => h⟩ (.int _) (p2 ks h1 fun k => by rw [h2, decide_eq_true_iff])
end
section
variable {C : CI} {X : Cx}
theorem ez_lenS {elt tg iter : Expr} {ifs : List Expr} {scope : Scope} {own : List (Str × Nat)} {p pos pos2 : Pos} {zi : ZI} {g : TG} {zg : ZG} {zt : ZT} {ze : ZE} (hm : X.mg "len" = none) (hN : X.N.Nodup) (hi : IZ C X tg iter zi) (ok : BlkOk X.N X.env.scope scope own) (ho : Own g (own.map (·.2))) (hb : BlkZ C X scope tg ifs elt g zg zt ze)
    (hc : X.calm = true := by rfl) (hs : ∀ x, foldedSetIterable iter X.env x = pure x := by intro _; rfl) (hg : Gl X "len" := by rfl)
    (st : starEach [.SetComp elt [⟨tg, iter, ifs, 0⟩] scope pos2] X.env = (false, eval (.SetComp elt [⟨tg, iter, ifs, 0⟩] scope pos2) X.env) :: starEach [] X.env := by rfl) (pl : (backTo pos (starEach [] X.env)).any (·.1) = false := by rfl) :
    EZ C X (.Call (.Name "len" p) [.SetComp elt [⟨tg, iter, ifs, 0⟩] scope pos2] [] pos) (zLenS zi zg zt ze (own.map (·.2))) := by
  obtain ⟨wi, i1, i2⟩ := hi.ex
  obtain ⟨tt, te, b1, b2, b3, b4⟩ := hb.ex
  exact ⟨_, pe_callB cr_lenS hg hm (by decide +kernel) (pa_cons (peSI hc hN i1 ok (fun s H Ca cl fp => (b1 s H Ca cl fp).1) (fun s H Ca cl fp => (b1 s H Ca cl fp).2.1) (fun s H Ca cl fp => (b1 s H Ca cl fp).2.2) hs) pa_nil st) (by decide) (by decide) st pl, ref_lenS i2 b2 ho b3 b4⟩
end
end Z

/-! Z20: reversed(list) walked; comprehensions given to a name as cells; lent comprehensions. -/
namespace Z
open PySem PySem.Spec PyProof.Rows L2
section
variable {C : CI} {X : Cx}
/-! ### reversed(xs) -/
def ziRev (z : ZE) : ZI := fun Γ Δ P => z Γ Δ fun d Δ1 => ∃ ds, d = .lst ds ∧ P ds.reverse Δ1
theorem walk_back {K : PySem.W.Frag} {a : Addr} {xs : List V} : Walk (Itv K a xs.length) xs.length (fun H => SqL K H a xs) (YAt xs.reverse) :=
  ⟨fun i _ hi q => ⟨hi, xs, xs[xs.length - 1 - i]'(by omega), q, List.getElem?_eq_getElem _⟩, fun _ _ => Nat.le_refl _, fun i _ _ _ hi q y => ⟨y.1, by
    rw [List.getElem?_reverse hi]
    exact y.2 xs q⟩⟩
theorem iz_rev {tg e : Expr} {z : ZE} {p pos : Pos} (h : EZ C X e z) (hm : X.mg "reversed" = none) (hg : Gl X "reversed" := by rfl) (hs : starEach [e] X.env = (false, eval e X.env) :: starEach [] X.env := by rfl) : IZ C X tg (.Call (.Name "reversed" p) [e] [] pos) (ziRev z) := by
  obtain ⟨t, h1, h2⟩ := h.ex
  refine ⟨_, RT.pi_revA hg hm h1 hs, fun S A σ H Γ Δ P R hs hc hz k => h2 S A σ H Γ Δ _ _ hs hc hz fun v d A1 H1 Δ1 e1 c1 r1 q => ?_⟩
  obtain ⟨ds, rfl, q⟩ := q
  cases r1 with
  | lst g1 g2 g3 g4 =>
    rename_i a xs
    refine ⟨a, xs, rfl, .inl ⟨SqL.of g1, ?_⟩⟩
    refine k (Itv X.K a xs.length) xs.length (fun H => SqL X.K H a xs) (YAt xs.reverse) ds.reverse A1 H1 Δ1 e1 c1 q (by rw [List.length_reverse, g4.length]) walk_back (fun S2 A2 H2 m => SqL.of (m.keep _ _ g2 g3 g1)) fun S2 A2 H2 Δ2 i x H3 hi m c2 y => ?_
    obtain ⟨rfl, y⟩ := y
    obtain ⟨d, q1, q2⟩ := (RepL.mono m _ g4.reverse).getV y
    exact ⟨d, q1, fun _ _ h => h, q2⟩
/-! ### a comprehension given to a name, as a cell -/
theorem sz_setLcC {i : Nat} {y : Str} {py : Pos} {elt tg iter : Expr} {ifs : List Expr} {scope : Scope} {own : List (Str × Nat)} {pos spos : Pos} {zi : ZI} {g : TG} {zg : ZG} {zt : ZT} {ze : ZE} (hN : X.N.Nodup) (hy : X.N[i]? = some y) (hyl : X.env.scope.names.lookup y = some .local)
    (hsw : swapsWith (.ListComp elt [⟨tg, iter, ifs, 0⟩] scope pos) (some (.Name y py)) spos.line X.env = pure true) (hi : IZ C X tg iter zi) (ok : BlkOk X.N X.env.scope scope own) (ho : Own g (own.map (·.2))) (hb : BlkZ C X scope tg ifs elt g zg zt ze)
    (hc : X.calm = true := by rfl) (hs : ∀ x, foldedSetIterable iter X.env x = pure x := by intro _; rfl) : SZ C X (.Assign [.Name y py] (.ListComp elt [⟨tg, iter, ifs, 0⟩] scope pos) spos) (zAsg (zLcC zi zg zt ze (own.map (·.2))) (zgName i)) := by
  obtain ⟨wi, i1, i2⟩ := hi.ex
  obtain ⟨tt, te, b1, b2, b3, b4⟩ := hb.ex
  exact ⟨_, ps_setLc hc hN hy hyl hsw i1 ok (fun s H Ca cl fp => (b1 s H Ca cl fp).1) (fun s H Ca cl fp => (b1 s H Ca cl fp).2.1) (fun s H Ca cl fp => (b1 s H Ca cl fp).2.2) hs, ref_asg (ref_lcC i2 b2 ho b3 b4) (gz_name (C := C) (pos := py) hN hy (.inl hyl) (.inr hyl)).ref⟩
end
/-! ### an expression that is lent the cells' contents and gives a new list -/
def zLendL (z : ZE) : ZE := fun Γ Δ P => z (Γ.map (lent1 Δ)) [] fun d Δ' => ∃ m es, d = .cell m ∧ Δ'[m]? = some (.lst es) ∧ bareTs es = true ∧ P (.lst es) Δ
theorem ref_lendL {K : PySem.W.Frag} {C : CI} {te : TE} {ze : ZE} (h : RefE K C te ze) : RefE K C te (zLendL ze) := fun S A σ H Γ Δ P Q hs hc hz k =>
  h S [] σ H _ [] _ Q (Slots.lent hc hs) ⟨rfl, .nil, (fun a ha => nomatch ha), hc.as, (fun n a o h => nomatch h)⟩ hz fun v d A' H' Δ' e2 c2 r2 p2 => by
    obtain ⟨m, es, rfl, g2, hb, p2⟩ := p2
    cases r2 with
    | cell g1 =>
      rename_i a
      obtain ⟨q1, q2, q3, xs, q4, q5⟩ := hc.adopt e2 c2 g1 g2 hb
      have kp : ∀ a o, H a = some o → H' a = some o := fun a o h => e2.keep a o (fun q => nomatch q) h
      exact k _ _ A H' Δ (Ext.kept kp) (hc.kept kp) (.lst q4 (hc.fresh q1) (c2.dj a (List.mem_of_getElem? g1)) q5) p2
section
variable {C : CI} {X : Cx}
theorem ez_lendL {e : Expr} {ze : ZE} (h : EZ C X e ze) : EZ C X e (zLendL ze) := by
  obtain ⟨t, h1, h2⟩ := h.ex
  exact ⟨t, h1, ref_lendL h2⟩
theorem sz_setLcL {i : Nat} {y : Str} {py : Pos} {elt tg iter : Expr} {ifs : List Expr} {scope : Scope} {own : List (Str × Nat)} {pos spos : Pos} {zi : ZI} {g : TG} {zg : ZG} {zt : ZT} {ze : ZE} (hN : X.N.Nodup) (hy : X.N[i]? = some y) (hyl : X.env.scope.names.lookup y = some .local)
    (hsw : swapsWith (.ListComp elt [⟨tg, iter, ifs, 0⟩] scope pos) (some (.Name y py)) spos.line X.env = pure true) (hi : IZ C X tg iter zi) (ok : BlkOk X.N X.env.scope scope own) (ho : Own g (own.map (·.2))) (hb : BlkZ C X scope tg ifs elt g zg zt ze)
    (hc : X.calm = true := by rfl) (hs : ∀ x, foldedSetIterable iter X.env x = pure x := by intro _; rfl) : SZ C X (.Assign [.Name y py] (.ListComp elt [⟨tg, iter, ifs, 0⟩] scope pos) spos) (zAsg (zLendL (zLcC zi zg zt ze (own.map (·.2)))) (zgName i)) := by
  obtain ⟨wi, i1, i2⟩ := hi.ex
  obtain ⟨tt, te, b1, b2, b3, b4⟩ := hb.ex
  exact ⟨_, ps_setLc hc hN hy hyl hsw i1 ok (fun s H Ca cl fp => (b1 s H Ca cl fp).1) (fun s H Ca cl fp => (b1 s H Ca cl fp).2.1) (fun s H Ca cl fp => (b1 s H Ca cl fp).2.2) hs, ref_asg (ref_lendL (ref_lcC i2 b2 ho b3 b4)) (gz_name (C := C) (pos := py) hN hy (.inl hyl) (.inr hyl)).ref⟩
end
/-! ### a comprehension within a comprehension -/
theorem relab_look {env : PySem.Env} : ∀ {names : List (Str × NameKind)} {x : Str}, names.lookup x = some .cell ∨ names.lookup x = some .free →
    (names.map fun (n, k) => if (k == .free && env.scope.kind == .function && env.kindOf n == some .cell) then (n, NameKind.cell) else (n, k)).lookup x = some .cell ∨
    (names.map fun (n, k) => if (k == .free && env.scope.kind == .function && env.kindOf n == some .cell) then (n, NameKind.cell) else (n, k)).lookup x = some .free
  | [], _, h => by simp at h
  | (n, k) :: r, x, h => by
    rw [List.map_cons]
    by_cases e : x = n
    · subst e
      rw [List.lookup_cons_self] at h
      cases hc : (k == .free && env.scope.kind == .function && env.kindOf x == some .cell) with
      | true =>
        left
        show List.lookup x ((if _ = true then (x, NameKind.cell) else (x, k)) :: _) = _
        rw [hc, if_pos rfl, List.lookup_cons_self]
      | false =>
        have h' : ∀ z, List.lookup x ((if (k == .free && env.scope.kind == .function && env.kindOf x == some .cell) = true then (x, NameKind.cell) else (x, k)) :: z) = some k := fun z => by
          rw [hc, if_neg Bool.false_ne_true, List.lookup_cons_self]
        exact h.imp (fun q => (h' _).trans q) fun q => (h' _).trans q
    · have ne : (x == n) = false := by rw [beq_eq_false_iff_ne]; exact e
      have h2 : r.lookup x = some .cell ∨ r.lookup x = some .free := by
        rw [List.lookup_cons, ne] at h
        exact h
      have ih := relab_look (env := env) h2
      have h' : ∀ z, List.lookup x ((if (k == .free && env.scope.kind == .function && env.kindOf n == some .cell) = true then (n, NameKind.cell) else (n, k)) :: z) = List.lookup x z := fun z => by
        cases hc : (k == .free && env.scope.kind == .function && env.kindOf n == some .cell) with
        | true => rw [if_pos rfl, List.lookup_cons, ne]
        | false => rw [if_neg Bool.false_ne_true, List.lookup_cons, ne]
      exact ih.imp (fun q => (h' _).trans q) fun q => (h' _).trans q
theorem blkOk_in {N : List Str} {sc scope : Scope} {env : PySem.Env} {own : List (Str × Nat)} (h : BlkOk N sc scope own) : BlkOk N (relabel sc env) scope own :=
  ⟨h.kind, h.uniq, h.ix, fun y hy e => relab_look (h.free y hy e), h.own⟩
end Z

/-! Z21: a, b, c = x, y, z with plain local names. -/
namespace Z
open PySem PySem.Spec PyProof.Rows L2
section
variable {C : CI} {X : Cx}
def zPar3 (i j l : Nat) (za : ZA) : ZS := fun Z Γ Δ => za Γ Δ fun ds Δ1 => ∃ a b c, ds = [a, b, c] ∧ Z.nx (((Γ.set i (some a)).set j (some b)).set l (some c)) Δ1
theorem sz_par3 {i j l : Nat} {x y z : Str} {a b c : Expr} {za : ZA} {px py pz pt pos : Pos} {kt k2 pt2} (hN : X.N.Nodup) (hi : X.N[i]? = some x) (hj : X.N[j]? = some y) (hl : X.N[l]? = some z) (hij : i ≠ j) (hil : i ≠ l) (hjl : j ≠ l)
    (hx : X.env.scope.names.lookup x = some .local) (hy : X.env.scope.names.lookup y = some .local) (hz : X.env.scope.names.lookup z = some .local) (ha : AZ C X [a, b, c] za)
    (hw : swappedStores [.Tuple [.Name x px, .Name y py, .Name z pz] kt pt] (.Tuple [a, b, c] k2 pt2) X.env = pure (some [x, y, z]) := by rfl)
    (hs : swapsWithSole [.Tuple [.Name x px, .Name y py, .Name z pz] kt pt] (.Tuple [a, b, c] k2 pt2) pos.line X.env = pure false := by rfl) (hc : X.calm = true := by rfl) :
    SZ C X (.Assign [.Tuple [.Name x px, .Name y py, .Name z pz] kt pt] (.Tuple [a, b, c] k2 pt2) pos) (zPar3 i j l za) := by
  obtain ⟨t, a1, a2⟩ := ha.ex
  refine ⟨_, ps_par3 hc hN hi hj hl hij hil hjl hx hy hz a1 hw hs, fun S A σ H Γ Δ Z N hs hc hz k => a2 S A σ H Γ Δ _ _ hs hc hz fun vs ds A1 H1 Δ1 e1 c1 r1 p => ?_⟩
  obtain ⟨a, b, c, rfl, p⟩ := p
  cases r1 with
  | cons r1 r2 =>
    cases r2 with
    | cons r2 r3 =>
      cases r3 with
      | cons r3 r4 =>
        cases r4
        exact ⟨_, _, _, rfl, k.nx _ A1 H1 _ Δ1 e1 ((((hs.ext e1).set i r1).set j r2).set l r3) c1 p⟩
end
end Z

/-! Z22: own methods; own objects with lists of their own, frozen when they are made. -/
namespace Z
open PySem PySem.Spec PyProof.Rows L2
/-- an instance of the class c whose own dict has no m -/
def insM (C : CI) (Δ : Store) (c : Nat) (m : Str) (x : D) : Prop := (∃ ds, x = .ins c ds ∧ m ∉ C.nms c) ∨ ∃ n fs, x = .cell n ∧ Δ[n]? = some (.ins c fs) ∧ m ∉ fs.map (·.1)
theorem look_no {α : Type} {m : Str} : ∀ {fs : List (Str × α)}, m ∉ fs.map (·.1) → fs.lookup m = none
  | [], _ => rfl
  | (n, v) :: fs, h => by
    rw [List.map_cons, List.mem_cons, not_or] at h
    rw [List.lookup_cons, beq_eq_false_iff_ne.mpr h.1]
    exact look_no h.2
section
variable {K : PySem.W.Frag} {C : CI} {S A : List Addr} {H : Hp} {Δ : Store}
theorem Rep.instM {x : V} {d0 : D} {c : Nat} {m : Str} (hc : Cells K C S A H Δ) (r : Rep K C S A H x d0) (h : insM C Δ c m d0) : ∃ a dx fs, x = .ref a ∧ H a = some (.ins (C.adr c) dx fs) ∧ fs.lookup m = none := by
  rcases h with ⟨ds, rfl, hm⟩ | ⟨n, fs, rfl, q, hm⟩
  · cases r with
    | ins h1 h2 h3 h4 h5 =>
      refine ⟨_, _, _, rfl, h1, look_no fun q => hm ?_⟩
      obtain ⟨p, hp, rfl⟩ := List.mem_map.mp q
      exact (List.of_mem_zip hp).1
  · cases r with
    | cell e =>
      obtain ⟨dx, xs, g1, g2, _⟩ := hc.at_ n _ _ e q
      exact ⟨_, _, _, rfl, g1, look_no (by rw [g2]; exact hm)⟩
end
/-- o.m(e, ..), o an instance of the class c -/
def zMeth (C : CI) (c : Nat) (m : Str) (W : ZRC) (zo : ZE) (za : ZA) : ZE := fun Γ Δ P => zo Γ Δ fun y Δ1 => insM C Δ1 c m y ∧ za Γ Δ1 fun ds Δ2 => W (y :: ds) Δ2 P
section
variable {C : CI} {X : Cx} {o e : Expr} {es : List Expr} {zo : ZE} {za : ZA} {pos apos : Pos} {m : Str} {k : Nat} {g : Addr} {fd : FuncData} {ps : List Str} {W : ZRC}
theorem ref_meth {K : PySem.W.Frag} {c : Nat} {te : TE} {ta : TA} {E : XK} (he : RefE K C te zo) (ha : RefA K C ta za) : RefE K C (tMeth (C.adr c) m (SpZ K C W) [] E te ta) (zMeth C c m W zo za) := fun S A σ H Γ Δ P Q hs hc hz k =>
  he S A σ H Γ Δ _ _ hs hc hz fun v d A1 H1 Δ1 e1 c1 r1 p => by
    obtain ⟨hi, p⟩ := p
    obtain ⟨a, dx, fs, rfl, g1, g2⟩ := r1.instM c1 hi
    refine ⟨a, dx, fs, rfl, g1, g2, ha S A1 σ H1 Γ Δ1 _ _ (hs.ext e1) c1 p fun vs ds A2 H2 Δ2 e2 c2 r2 p2 => ?_⟩
    exact ⟨S, A2, Δ2, d :: ds, P, by rw [List.append_nil]; exact .cons (r1.ext e2) r2, c2, p2, fun v d A' H' Δ' e3 c3 r3 p3 => k v d A' H' Δ' ((e1.trans e2).trans e3) c3 r3 p3⟩
theorem ez_meth {c : Nat} {pl : Sem Bool} (ho : EZ C X o zo) (cl : Cls X.K (C.adr c)) (hm : Meth X.K (C.adr c) m g) (F : FnOk X.prog X.w X.K X.mg X.base CX0 k g fd ps (SpZ X.K C W)) (hr : Room k X.A) (hb : Binds X.K fd ps []) (ha : AZ C X (e :: es) za)
    (hst : starEach (e :: es) X.env = (false, eval e X.env) :: starEach es X.env := by rfl) (hpl : (backTo pos (starEach es X.env)).any (·.1) = false := by rfl)
    (ht : eval (.Call (.Attribute o m apos) (e :: es) [] pos) X.env = (do
      let ov ← eval o X.env
      standAt apos.atName
      let (f, first) ← holding [ov] (getMethod ov m pl)
      callWith pos f first (backTo pos (starEach (e :: es) X.env)) (backToKw pos (keywordEach [] X.env))) := by rfl) :
    EZ C X (.Call (.Attribute o m apos) (e :: es) [] pos) (zMeth C c m W zo za) := by
  obtain ⟨t, a1, a2⟩ := ho.ex
  obtain ⟨u, b1, b2⟩ := ha.ex
  exact ⟨_, pe_meth a1 cl hm F hr hb .nil (E := E0) pass0 b1 hst hpl ht, ref_meth a2 b2⟩
theorem ez_meth0 {c : Nat} {pl : Sem Bool} (ho : EZ C X o zo) (cl : Cls X.K (C.adr c)) (hm : Meth X.K (C.adr c) m g) (F : FnOk X.prog X.w X.K X.mg X.base CX0 k g fd ps (SpZ X.K C W)) (hr : Room k X.A) (hb : Binds X.K fd ps [])
    (ht : eval (.Call (.Attribute o m apos) [] [] pos) X.env = (do
      let ov ← eval o X.env
      standAt apos.atName
      let (f, first) ← holding [ov] (getMethod ov m pl)
      callWith pos f first (backTo pos (starEach [] X.env)) (backToKw pos (keywordEach [] X.env))) := by rfl) :
    EZ C X (.Call (.Attribute o m apos) [] [] pos) (zMeth C c m W zo zNil) := by
  obtain ⟨t, a1, a2⟩ := ho.ex
  exact ⟨_, pe_meth0 a1 cl hm F hr hb .nil (E := E0) pass0 ht, ref_meth a2 (fun S A σ H Γ Δ P Q hs hc hz k => k [] [] A H Δ (Ext.refl _ _) hc .nil hz)⟩
end
/-! ### frozen with all that is its own -/
mutual
theorem below_mono {m m' : Nat} (h : m ≤ m') : ∀ d : D, below m d = true → below m' d = true
  | .cell n, q => by
    have q : decide (n < m) = true := q
    show decide (n < m') = true
    have := of_decide_eq_true q
    exact decide_eq_true (by omega)
  | .tup ds, q => belowL_mono h ds q
  | .lst ds, q => belowL_mono h ds q
  | .ins _ ds, q => belowL_mono h ds q
  | .dct _ ds, q => belowL_mono h ds q
  | .non, _ => rfl
  | .bl _, _ => rfl
  | .int _, _ => rfl
  | .str _, _ => rfl
  | .ty _, _ => rfl
  | .cls _, _ => rfl
  | .scr _, _ => rfl
theorem belowL_mono {m m' : Nat} (h : m ≤ m') : ∀ ds : List D, belowL m ds = true → belowL m' ds = true
  | [], _ => rfl
  | d :: ds, q => by
    have q : (below m d && belowL m ds) = true := q
    rw [Bool.and_eq_true] at q
    show (below m' d && belowL m' ds) = true
    rw [below_mono h d q.1, belowL_mono h ds q.2]
    rfl
end
/-- cells from m on by their contents, down to a depth -/
def frx (C : CI) (Δ : Store) (m : Nat) : Nat → D → D
  | 0, d => d
  | k + 1, .cell n => if n < m then .cell n else match Δ[n]? with
    | some (.lst ds) => .lst (ds.map (frx C Δ m k))
    | some (.ins c fs) => if fs.map (·.1) = C.nms c then .ins c ((fs.map (·.2)).map (frx C Δ m k)) else .cell n
    | _ => .cell n
  | k + 1, .lst ds => .lst (ds.map (frx C Δ m k))
  | k + 1, .tup ds => .tup (ds.map (frx C Δ m k))
  | k + 1, .ins c ds => .ins c (ds.map (frx C Δ m k))
  | _ + 1, .scr ns => .scr ns
  | _ + 1, .non => .non
  | _ + 1, .bl b => .bl b
  | _ + 1, .int i => .int i
  | _ + 1, .str x => .str x
  | _ + 1, .ty n => .ty n
  | _ + 1, .cls c => .cls c
  | _ + 1, .dct ks ds => .dct ks ds
section
variable {K : PySem.W.Frag} {C : CI} {S : List Addr} {H : Hp} {Δ : Store}
theorem Rep.dropB : ∀ (B A : List Addr) (d : D) {v : V}, Z.below A.length d = true → Rep K C S (A ++ B) H v d → Rep K C S A H v d
  | [], A, d, v, _, r => by rw [List.append_nil] at r; exact r
  | x :: B, A, d, v, hb, r => by
    have e : A ++ x :: B = (A ++ [x]) ++ B := by simp
    rw [e] at r
    exact Rep.drop d hb (Rep.dropB B (A ++ [x]) d (below_mono (by simp) d hb) r)
theorem RepL.dropB (B A : List Addr) : ∀ (ds : List D) {vs : List V}, Z.belowL A.length ds = true → RepL K C S (A ++ B) H vs ds → RepL K C S A H vs ds
  | [], _, _, .nil => .nil
  | d :: ds, _, hb, .cons h r => by
    have hb : (Z.below A.length d && Z.belowL A.length ds) = true := hb
    rw [Bool.and_eq_true] at hb
    exact .cons (Rep.dropB B A d hb.1 h) (RepL.dropB B A ds hb.2 r)
theorem repL_map {A A' : List Addr} {m : Nat} {f : D → D} (hf : ∀ (d : D) (v : V), Z.below m (f d) = true → Rep K C S A' H v d → Rep K C S A H v (f d)) : ∀ {ds : List D} {vs : List V}, Z.belowL m (ds.map f) = true → RepL K C S A' H vs ds → RepL K C S A H vs (ds.map f)
  | [], _, _, .nil => .nil
  | d :: ds, _, hb, .cons h r => by
    have hb : (Z.below m (f d) && Z.belowL m (ds.map f)) = true := hb
    rw [Bool.and_eq_true] at hb
    exact .cons (hf d _ hb.1 h) (repL_map hf hb.2 r)
theorem Rep.frx {A B : List Addr} (hc : Cells K C S (A ++ B) H Δ) : ∀ (k : Nat) (d : D) (v : V), Z.below A.length (Z.frx C Δ A.length k d) = true → Rep K C S (A ++ B) H v d → Rep K C S A H v (Z.frx C Δ A.length k d)
  | 0, d, v, hb, r => Rep.dropB B A d hb r
  | k + 1, d, v, hb, r => by
    have ih := Rep.frx hc k
    cases r with
    | cell e =>
      rename_i a n
      unfold Z.frx at hb ⊢
      by_cases hn : n < A.length
      · rw [if_pos hn] at hb ⊢
        rw [List.getElem?_append_left hn] at e
        exact .cell e
      · rw [if_neg hn] at hb ⊢
        have haA : a ∉ A := fun h => by
          obtain ⟨j, hj⟩ := List.mem_iff_getElem?.mp h
          have hjl := (List.getElem?_eq_some_iff.mp hj).1
          have e2 : (A ++ B)[j]? = some a := by rw [List.getElem?_append_left hjl]; exact hj
          have := (List.getElem?_inj (List.getElem?_eq_some_iff.mp e2).1 hc.nd).mp (e2.trans e.symm)
          omega
        have haS : a ∉ S := hc.dj a (List.mem_of_getElem? e)
        cases q : Δ[n]? with
        | none => simp only [q] at hb; exact absurd (of_decide_eq_true hb) hn
        | some o =>
          cases o with
          | dct _ _ => simp only [q] at hb; exact absurd (of_decide_eq_true hb) hn
          | lst ds =>
            simp only [q] at hb ⊢
            obtain ⟨xs, g1, g2⟩ := hc.at_ n a _ e q
            exact .lst g1 haA haS (repL_map (fun d v => ih d v) hb g2)
          | ins c fs =>
            simp only [q] at hb ⊢
            by_cases hf : fs.map (·.1) = C.nms c
            · rw [if_pos hf] at hb ⊢
              obtain ⟨dx, xs, g1, g2, g3⟩ := hc.at_ n a _ e q
              rw [hf] at g2
              rw [zip_of g2] at g1
              refine .ins g1 haA haS ?_ (repL_map (fun d v => ih d v) hb g3)
              rw [List.length_map, ← g2, List.length_map]
            · rw [if_neg hf] at hb
              exact absurd (of_decide_eq_true hb) hn
    | scr e => 
      unfold Z.frx at hb ⊢
      refine .scr ?_
      rcases e with ⟨e1, e2, e3⟩ | e
      · exact .inl ⟨e1, fun h => e2 (List.mem_append_left _ h), e3⟩
      · exact .inr e
    | non => exact .non
    | bl b => exact .bl b
    | int i => exact .int i
    | str x => exact .str x
    | ty n => exact .ty n
    | cls n => exact .cls n
    | tup h1 h2 h3 r => unfold Z.frx at hb ⊢; exact .tup h1 (fun h => h2 (List.mem_append_left _ h)) h3 (repL_map (fun d v => ih d v) hb r)
    | lst h1 h2 h3 r => unfold Z.frx at hb ⊢; exact .lst h1 (fun h => h2 (List.mem_append_left _ h)) h3 (repL_map (fun d v => ih d v) hb r)
    | ins h1 h2 h3 h4 r => unfold Z.frx at hb ⊢; exact .ins h1 (fun h => h2 (List.mem_append_left _ h)) h3 h4 (repL_map (fun d v => ih d v) hb r)
    | dct h1 h2 h3 h4 r => unfold Z.frx at hb ⊢; exact .dct h1 (fun h => h2 (List.mem_append_left _ h)) h3 h4 (RepL.dropB B A _ hb r)
theorem Cells.freezeB {H0 : Hp} {A B : List Addr} {r : Store} (c1 : Cells K C S A H0 Δ) (hc : Cells K C S (A ++ B) H (Δ ++ r)) : Cells K C S A H Δ := by
  have lenΔ := c1.len
  refine ⟨c1.len, c1.nd, c1.dj, hc.as, fun n a o h1 h2 => ?_⟩
  have hn : n < A.length := (List.getElem?_eq_some_iff.mp h1).1
  have q := hc.at_ n a o (by rw [List.getElem?_append_left hn]; exact h1) (by rw [List.getElem?_append_left (by rw [← lenΔ]; exact hn)]; exact h2)
  have q0 := c1.at_ n a o h1 h2
  cases o with
  | lst ds =>
    obtain ⟨xs, g1, g2⟩ := q
    obtain ⟨_, _, g3⟩ := q0
    exact ⟨xs, g1, RepL.dropB B A ds (RepL.blw ds g3) g2⟩
  | ins c fs =>
    obtain ⟨dx, xs, g1, g2, g3⟩ := q
    obtain ⟨_, _, _, _, g4⟩ := q0
    exact ⟨dx, xs, g1, g2, RepL.dropB B A _ (RepL.blw _ g4) g3⟩
  | dct ks ds =>
    obtain ⟨xs, g1, g2, g3⟩ := q
    obtain ⟨_, _, _, g4⟩ := q0
    exact ⟨xs, g1, g2, RepL.dropB B A _ (RepL.blw _ g4) g3⟩
end
/-- C(..), never changed again, with all lists of its own: as data -/
def zMakeX (C : CI) (c : Nat) (W : ZRC) (dds : List D) (za : ZA) : ZE := fun Γ Δ P => za Γ Δ fun ds Δ1 => W (.cell Δ1.length :: (ds ++ dds)) (Δ1 ++ [.ins c []]) fun v Δ2 => v = .non ∧ ∃ r, Δ2 = Δ1 ++ r ∧ Z.below Δ1.length (frx C Δ2 Δ1.length 4 (.cell Δ1.length)) = true ∧ P (frx C Δ2 Δ1.length 4 (.cell Δ1.length)) Δ1
section
variable {C : CI} {X : Cx} {e : Expr} {es : List Expr} {za : ZA} {pos p : Pos} {x : Str} {k : Nat} {f : Addr} {fd : FuncData} {ps : List Str} {W : ZRC} {dvs : List V} {dds : List D} {ds : List Value}
theorem ref_makeX {K : PySem.W.Frag} {c : Nat} {ta : TA} {E : XK} (ha : RefA K C ta za) (hdd : ∀ S A H, RepL K C S A H dvs dds) : RefE K C (tMake (C.adr c) (SpZ K C W) dvs E ta) (zMakeX C c W dds za) := fun S A σ H Γ Δ P Q hs hc hz k =>
  ha S A σ H Γ Δ _ _ hs hc hz fun vs ds A1 H1 Δ1 e1 c1 r1 p x dx hx hdx hne => by
    have hx0 : upd H1 dx (.own x) x = none := by rw [upd_ne (Ne.symm hne)]; exact hx
    have e2 : Ext A1 H1 A1 (upd H1 dx (.own x)) := Ext.new hdx
    have e3 : Ext A1 (upd H1 dx (.own x)) (A1 ++ [x]) (upd (upd H1 dx (.own x)) x (.ins (C.adr c) dx [])) := Ext.newCell hx0
    have e23 := e2.trans e3
    refine ⟨S, A1 ++ [x], Δ1 ++ [.ins c []], .cell Δ1.length :: (ds ++ dds), _, .cons (.cell ?_) ((r1.ext e23).append (hdd _ _ _)), (c1.new hdx).newO (o := .ins c []) hx0 ⟨dx, [], upd_same, rfl, .nil⟩, p, fun v d A' H' Δ' e4 c4 r4 p4 => ?_⟩
    · rw [← c1.len, List.getElem?_append_right (Nat.le_refl _), Nat.sub_self] <;> rfl
    · obtain ⟨rfl, r, rfl, hb, p4⟩ := p4
      cases r4
      refine ⟨rfl, ?_⟩
      obtain ⟨B, hB, _⟩ := e4.pre
      have hB2 : A' = A1 ++ ([x] ++ B) := by rw [hB, List.append_assoc]
      subst hB2
      have c5 := c1.freezeB c4
      rw [← c1.len] at hb p4
      have rx : Rep K C S (A1 ++ ([x] ++ B)) H' (.ref x) (.cell A1.length) := .cell (by rw [List.getElem?_append_right (Nat.le_refl _), Nat.sub_self] <;> rfl)
      have r5 := Rep.frx c4 4 _ _ hb rx
      have e14 := e23.trans e4
      exact k _ _ A1 H' Δ1 (e1.trans ⟨⟨[], by simp, by simp⟩, fun a o h1 h2 => e14.keep a o h1 h2, e14.trk⟩) c5 r5 p4
theorem ez_makeX {c : Nat} (M : Mk X.K (C.adr c) f) (F : FnOk X.prog X.w X.K X.mg X.base CX0 k f fd ps (SpZ X.K C W)) (hr : Room (k + 1) X.A) (hm : X.mg x = some (.ref (C.adr c))) (hb : Binds X.K fd ps ds) (hd : Vals dvs ds) (hdd : ∀ S A H, RepL X.K C S A H dvs dds)
    (ha : AZ C X (e :: es) za) (hg : Gl X x := by rfl) (hdb : (x == ("__debug__" : Str)) = false := by decide) (he : starEach (e :: es) X.env = (false, eval e X.env) :: starEach es X.env := by rfl) (hpl : (backTo pos (starEach es X.env)).any (·.1) = false := by rfl) :
    EZ C X (.Call (.Name x p) (e :: es) [] pos) (zMakeX C c W dds za) := by
  obtain ⟨t, a1, a2⟩ := ha.ex
  exact ⟨_, pe_make M F hr hg hm hb hd (E := E0) pass0 a1 hdb he hpl, ref_makeX a2 hdd⟩
end
end Z

/-! Z23: name op= e, divmod, list.index of ints, comprehensions lent with all that the objects hold. -/
namespace Z
open PySem PySem.Spec PyProof.Rows L2
/-! ### divmod -/
def zDivmod : ZRC := fun ds Δ P => ∃ i j : Int, ds = [.int i, .int j] ∧ CDivP i j ∧ P (.tup [.int (i / j), .int (i % j)]) Δ
section
variable {C : CI} {X : Cx}
theorem cz_divmod : CallZ C X (.builtin "divmod") zDivmod := ⟨_, call_divmodW, fun S A H Δ xs ds P Q hc r hz k => by
  obtain ⟨i, j, rfl, q1, q⟩ := hz
  obtain ⟨v, v', rfl, rv, rv'⟩ := two_rep r
  cases rv
  cases rv'
  refine ⟨i, j, rfl, q1, fun p hp => ?_⟩
  exact k _ _ A _ Δ (Ext.new hp) (hc.new hp) (.tup upd_same (hc.fresh hp) (fun h => hc.as p h hp) (.cons (.int _) (.cons (.int _) .nil))) q⟩
end
/-! ### name op= e -/
def zAug (i : Nat) (f : Int → Int → Int) (ze : ZE) : ZS := fun Z Γ Δ => ∃ a : Int, Γ[i]? = some (some (.int a)) ∧ ze Γ Δ fun d Δ1 => ∃ b : Int, d = .int b ∧ Z.nx (Γ.set i (some (.int (f a b)))) Δ1
section
variable {C : CI} {X : Cx} {i : Nat} {x : Str} {e : Expr} {ze : ZE} {op : Operator} {f : Int → Int → Int} {pos pos' : Pos}
theorem sz_aug (hN : X.N.Nodup) (h : EZ C X e ze) (ho : PIp X op (ipI f)) (hi : X.N[i]? = some x := by rfl) (hx : Loc X.env.scope x := by first | exact Or.inl rfl | exact Or.inr rfl)
    (hf : X.fn x = true ∨ X.env.scope.names.lookup x = some .local := by first | exact .inl rfl | exact .inr rfl | assumption) : SZ C X (.AugAssign (.Name x pos') op e pos) (zAug i f ze) := by
  obtain ⟨t, a1, a2⟩ := h.ex
  refine ⟨_, ps_aug hN hi hx a1 ho hf, fun S A σ H Γ Δ Z N hs hc hz k => ?_⟩
  obtain ⟨a, g, p⟩ := hz
  obtain ⟨v, g1, r⟩ := hs.at_ i _ g
  cases r
  refine ⟨_, g1, a2 S A σ H Γ Δ _ _ hs hc p fun v d A1 H1 Δ1 e1 c1 r1 p1 => ?_⟩
  obtain ⟨b, rfl, p1⟩ := p1
  cases r1
  exact ⟨a, b, rfl, rfl, k.nx _ A1 H1 _ Δ1 e1 ((hs.ext e1).set i (.int _)) c1 p1⟩
end
/-! ### comprehensions lent with all that the objects hold -/
def lentX (C : CI) (Δ : Store) : Option D → Option D
  | some d => if Z.below 0 (frx C Δ 0 4 d) = true then some (frx C Δ 0 4 d) else none
  | none => none
section
variable {K : PySem.W.Frag} {C : CI} {S A : List Addr} {H : Hp} {Δ : Store}
theorem Slots.lentX {σ : L2.St} {Γ : Env} (c : Cells K C S A H Δ) (s : Slots K C S A H σ Γ) : Slots K C S [] H σ (Γ.map (Z.lentX C Δ)) := by
  refine ⟨by rw [List.length_map]; exact s.len, fun i d h => ?_⟩
  rw [List.getElem?_map] at h
  cases q : Γ[i]? with
  | none => rw [q] at h; cases h
  | some o =>
    rw [q] at h
    cases o with
    | none => cases h
    | some d0 =>
      have h : (if Z.below 0 (frx C Δ 0 4 d0) = true then some (frx C Δ 0 4 d0) else none) = some d := Option.some.inj h
      by_cases hb : Z.below 0 (frx C Δ 0 4 d0) = true
      · rw [if_pos hb] at h
        cases h
        obtain ⟨v, g1, r⟩ := s.at_ i d0 q
        exact ⟨v, g1, Rep.frx (A := []) (B := A) c 4 d0 v hb r⟩
      · rw [if_neg hb] at h
        cases h
end
def zLendX (C : CI) (z : ZE) : ZE := fun Γ Δ P => z (Γ.map (lentX C Δ)) [] fun d Δ' => ∃ m es, d = .cell m ∧ Δ'[m]? = some (.lst es) ∧ bareTs es = true ∧ P (.lst es) Δ
theorem ref_lendX {K : PySem.W.Frag} {C : CI} {te : TE} {ze : ZE} (h : RefE K C te ze) : RefE K C te (zLendX C ze) := fun S A σ H Γ Δ P Q hs hc hz k =>
  h S [] σ H _ [] _ Q (Slots.lentX hc hs) ⟨rfl, .nil, (fun a ha => nomatch ha), hc.as, (fun n a o h => nomatch h)⟩ hz fun v d A' H' Δ' e2 c2 r2 p2 => by
    obtain ⟨m, es, rfl, g2, hb, p2⟩ := p2
    cases r2 with
    | cell g1 =>
      rename_i a
      obtain ⟨q1, q2, q3, xs, q4, q5⟩ := hc.adopt e2 c2 g1 g2 hb
      have kp : ∀ a o, H a = some o → H' a = some o := fun a o h => e2.keep a o (fun q => nomatch q) h
      exact k _ _ A H' Δ (Ext.kept kp) (hc.kept kp) (.lst q4 (hc.fresh q1) (c2.dj a (List.mem_of_getElem? g1)) q5) p2
section
variable {C : CI} {X : Cx}
theorem ez_lendX {e : Expr} {ze : ZE} (h : EZ C X e ze) : EZ C X e (zLendX C ze) := by
  obtain ⟨t, h1, h2⟩ := h.ex
  exact ⟨t, h1, ref_lendX h2⟩
theorem sz_setLcX {i : Nat} {y : Str} {py : Pos} {elt tg iter : Expr} {ifs : List Expr} {scope : Scope} {own : List (Str × Nat)} {pos spos : Pos} {zi : ZI} {g : TG} {zg : ZG} {zt : ZT} {ze : ZE} (hN : X.N.Nodup) (hy : X.N[i]? = some y) (hyl : X.env.scope.names.lookup y = some .local)
    (hsw : swapsWith (.ListComp elt [⟨tg, iter, ifs, 0⟩] scope pos) (some (.Name y py)) spos.line X.env = pure true) (hi : IZ C X tg iter zi) (ok : BlkOk X.N X.env.scope scope own) (ho : Own g (own.map (·.2))) (hb : BlkZ C X scope tg ifs elt g zg zt ze)
    (hc : X.calm = true := by rfl) (hs : ∀ x, foldedSetIterable iter X.env x = pure x := by intro _; rfl) : SZ C X (.Assign [.Name y py] (.ListComp elt [⟨tg, iter, ifs, 0⟩] scope pos) spos) (zAsg (zLendX C (zLcC zi zg zt ze (own.map (·.2)))) (zgName i)) := by
  obtain ⟨wi, i1, i2⟩ := hi.ex
  obtain ⟨tt, te, b1, b2, b3, b4⟩ := hb.ex
  exact ⟨_, ps_setLc hc hN hy hyl hsw i1 ok (fun s H Ca cl fp => (b1 s H Ca cl fp).1) (fun s H Ca cl fp => (b1 s H Ca cl fp).2.1) (fun s H Ca cl fp => (b1 s H Ca cl fp).2.2) hs, ref_asg (ref_lendX (ref_lcC i2 b2 ho b3 b4)) (gz_name (C := C) (pos := py) hN hy (.inl hyl) (.inr hyl)).ref⟩
end
/-! ### xs.index(n), ints -/
def zIndex (zo : ZE) (za : ZA) : ZE := fun Γ Δ P => zo Γ Δ fun o Δ1 => ∃ ns : List Int, o = .lst (ns.map D.int) ∧ za Γ Δ1 fun as Δ2 => ∃ (k : Int) (j : Nat), as = [.int k] ∧ ns[j]? = some k ∧ (∀ m, m < j → ns[m]? ≠ some k) ∧ P (.int (j : Nat)) Δ2
section
variable {C : CI} {X : Cx} {o e : Expr} {es : List Expr} {zo : ZE} {za : ZA} {apos cpos : Pos}
theorem ez_index (ho : EZ C X o zo) (ha : AZ C X (e :: es) za)
    (hbase : attributeBase o "index" X.env (eval o X.env) = eval o X.env := by rfl)
    (hfew : ((backTo cpos (starEach (e :: es) X.env)).all (fun x => !x.1) && (backToKw cpos (keywordEach [] X.env)).all (fun x => x.1.isSome)
      && decide ((e :: es).length + ([] : List Keyword).length + (if ([] : List Keyword).isEmpty then 0 else 1) < 30)) = true := by rfl)
    (hline : (apos.endLine == cpos.line) = true := by rfl) (hs : starEach (e :: es) X.env = (false, eval e X.env) :: starEach es X.env := by rfl) (hplain : (backTo cpos (starEach es X.env)).any (·.1) = false := by rfl) :
    EZ C X (.Call (.Attribute o "index" apos) (e :: es) [] cpos) (zIndex zo za) := by
  obtain ⟨t, o1, o2⟩ := ho.ex
  obtain ⟨u, a1, a2⟩ := ha.ex
  refine ⟨_, pe_bm PySem.F.plainAttrs_list PySem.F.slot_list_index PySem.F.type_list_index mt_index o1 a1 hbase hfew hline hs hplain, fun S A σ H Γ Δ P Q hs hc hz k => o2 S A σ H Γ Δ _ _ hs hc hz fun v d A1 H1 Δ1 e1 c1 r1 p => ?_⟩
  obtain ⟨ns, rfl, p⟩ := p
  cases r1 with
  | lst g gA gS gr =>
    refine ⟨.inl ⟨rfl, _, SqL.of g⟩, a2 S A1 σ H1 Γ Δ1 _ _ (hs.ext e1) c1 p fun vs as A2 H2 Δ2 e2 c2 r2 p2 => ?_⟩
    obtain ⟨y, j, rfl, hj, hno, p2⟩ := p2
    obtain ⟨w, rfl, rw_⟩ := one_rep r2
    cases rw_
    have gx := repL_int gr
    subst gx
    have g2 := e2.keep _ _ gA g
    refine ⟨_, ns.map V.int, .int y, j, .int y, rfl, rfl, SqL.of g2, rfl, ?_, by rw [List.getElem?_map, hj]; rfl, by show (y == y) = true; simp, fun m z' hm hz' => ?_, k _ _ A2 H2 Δ2 (e1.trans e2) c2 (.int _) p2⟩
    · rw [List.all_eq_true]
      intro x hx
      obtain ⟨i, _, rfl⟩ := List.mem_map.mp hx
      rfl
    · rw [List.getElem?_map] at hz'
      cases q : ns[m]? with
      | none => rw [q] at hz'; cases hz'
      | some n =>
        rw [q] at hz'
        cases hz'
        show (n == y) = false
        rw [beq_eq_false_iff_ne]
        exact fun e => hno m hm (by rw [q, e])
end
/-! ### t + u, tuples with items -/
def zCatT : ZR2 := fun x y Δ P => ∃ ds es, x = .tup ds ∧ y = .tup es ∧ ds ≠ [] ∧ es ≠ [] ∧ ds.length + es.length ≤ 100000 ∧ P (.tup (ds ++ es)) Δ
section
variable {C : CI} {X : Cx}
theorem oz_catT : OpZ C X (binaryOp .Add) zCatT := ⟨_, op_catT, fun S A H Δ x y dx dy P Q hc rx ry hz k => by
  obtain ⟨ds, es, rfl, rfl, h1, h2, hl, p⟩ := hz
  cases rx with
  | tup a1 a2 a3 a4 =>
    cases ry with
    | tup b1 b2 b3 b4 =>
      rename_i a xs b ys
      have n1 : xs ≠ [] := fun q => h1 (List.length_eq_zero_iff.mp (by rw [← a4.length, q]; rfl))
      have n2 : ys ≠ [] := fun q => h2 (List.length_eq_zero_iff.mp (by rw [← b4.length, q]; rfl))
      refine ⟨a, b, xs, ys, rfl, rfl, SqT.of a1, SqT.of b1, n1, sz100 (by rw [a4.length, b4.length]; exact hl), fun q => absurd q n2, fun _ q hq => ?_⟩
      have e := Ext.new (A := A) (o := .tup (xs ++ ys)) hq
      exact k _ _ A _ Δ e (hc.new hq) (.tup upd_same (hc.fresh hq) (hc.aside hq) ((a4.append b4).ext e)) p⟩
end
end Z

/-! Z24: sum of a tuple of ints. -/
namespace Z
open PySem PySem.Spec PyProof.Rows L2
section
variable {C : CI} {X : Cx}
theorem cr_sumA (hc : X.calm = true) : CallR X (.builtin "sum") (fun vs H Q => ∃ (a : Addr) (ns : List Int), vs = [V.ref a] ∧ (SqL X.K H a (ns.map V.int) ∨ SqT X.K H a (ns.map V.int)) ∧ Q (.int ns.sum) H) := by
  intro pins s σ H vs us Q I r h
  obtain ⟨a, ns, rfl, hs, q⟩ := h
  rcases hs with hs | hs
  · exact cr_sum hc pins s σ H _ us Q I r ⟨a, ns, rfl, hs, q⟩
  · obtain ⟨its, rv, hl, _⟩ := I.tuple hs
    rw [Vals.ref1 r]
    obtain ⟨xs, e⟩ := rv.ints.allInts.items
    have hn : numsOf (intItems xs).toList = ns := by rw [← e]; exact rv.ints.numsOf
    rw [nums_intItems] at hn
    rw [e] at hl
    refine PySem.W.ktm_sumG (I.ok.hd hc) hl fun h' tk t' hk => ?_
    rw [preSum_eq, List.take_of_length_le (by simp), hn]
    exact ⟨.int _, H, I.kept hk, ⟨_, rfl⟩, q⟩
/-- sum of a list or a tuple of ints -/
def zSumA : ZRC := fun ds Δ P => ∃ (d : D) (ns : List Int), ds = [d] ∧ seqD Δ d = some (ns.map D.int) ∧ P (.int ns.sum) Δ
theorem cz_sumA (hc : X.calm = true := by rfl) : CallZ C X (.builtin "sum") zSumA := ⟨_, cr_sumA hc, fun S A H Δ xs ds P Q hc r hz k => by
  obtain ⟨d, ns, rfl, hd, q⟩ := hz
  obtain ⟨v, rfl, rv⟩ := one_rep r
  obtain ⟨pa, ys, rfl, hq, rr⟩ := Rep.seq hc rv hd
  obtain rfl := repL_int rr
  exact ⟨pa, ns, rfl, hq, k _ _ A H Δ (Ext.refl _ _) hc (.int _) q⟩⟩
end
end Z

/-! Z25: a for over a list that is a cell, the same all along. -/
namespace Z
open PySem PySem.Spec PyProof.Rows L2
def loopC (n : Nat) (ds : List D) (body : D → ZS) (Z : ZEnds) : List D → Env → Store → Prop
  | [], Γ, Δ => Δ[n]? = some (.lst ds) ∧ Z.nx Γ Δ
  | x :: xs, Γ, Δ => Δ[n]? = some (.lst ds) ∧ body x { Z with nx := loopC n ds body Z xs, ct := loopC n ds body Z xs, bk := Z.nx } Γ Δ
def zForC (z : ZE) (g : ZG) (zs : ZS) : ZS := fun Z Γ Δ => z Γ Δ fun d Δ1 => ∃ n ds, d = .cell n ∧ loopC n ds (fun x Z' Γ' Δ' => g x Γ' Δ' fun Γ2 Δ2 => zs Z' Γ2 Δ2) Z ds Γ Δ1
theorem loopC_at {n : Nat} {ds : List D} {body : D → ZS} {Z : ZEnds} {xs : List D} {Γ : Env} {Δ : Store} (h : loopC n ds body Z xs Γ Δ) : Δ[n]? = some (.lst ds) := by
  cases xs with
  | nil => exact h.1
  | cons x xs => exact h.1
theorem Cells.lst_ {K : PySem.W.Frag} {C : CI} {S A : List Addr} {H : Hp} {Δ : Store} {n : Nat} {a : Addr} {ds : List D} (c : Cells K C S A H Δ) (ha : A[n]? = some a) (h : Δ[n]? = some (.lst ds)) : ∃ xs, H a = some (.lst xs) ∧ RepL K C S A H xs ds := c.at_ n a _ ha h
section
variable {C : CI} {X : Cx} {pos : Pos}
theorem sz_forC {tg iter : Expr} {body : List Stmt} {z : ZE} {g : TG} {zg : ZG} {zb : ZS} (hi : EZ C X iter z) (hg : GZ C X tg g zg) (hb : SZs C X body zb) (hp : PassesOwn (model X.prog X.w) X.A X.env X.xe := by exact PassesOwn.never) (hc : X.calm = true := by rfl)
    (hs : ∀ x, foldedSetIterable iter X.env x = pure x := by intro _; rfl) : SZ C X (.For tg iter body [] pos) (zForC z zg zb) := by
  obtain ⟨t, i1, i2⟩ := hi.ex
  obtain ⟨tb, b1, b2⟩ := hb.ex
  refine ⟨_, ps_for hp hc (pi_list i1) hg.pg b1 hs, fun S A σ H Γ Δ Z N hs hc hz k => i2 S A σ H Γ Δ _ _ hs hc hz fun v d A1 H1 Δ1 e1 c1 r1 p => ?_⟩
  obtain ⟨n, ds, rfl, p⟩ := p
  cases r1 with
  | cell ha =>
    rename_i a
    obtain ⟨xs1, g1, g2⟩ := c1.lst_ ha (loopC_at p)
    refine ⟨a, rfl, ⟨xs1, SqL.of g1⟩, ?_⟩
    have w : Walk (Itl X.K a) ds.length (fun H => ∃ xs, H a = some (.lst xs) ∧ xs.length = ds.length) (fun i H x H' => H' = H ∧ ∀ xs, H a = some (.lst xs) → xs[i]? = some x) :=
      ⟨fun i H hi ⟨xs, q, l⟩ => ⟨xs, xs[i], SqL.of q, List.getElem?_eq_getElem (by omega)⟩, fun H ⟨xs, q, l⟩ => ⟨xs, SqL.of q, by omega⟩, fun i H x H' hi ⟨xs, q, l⟩ y => ⟨y.1, fun xs q => y.2 xs (SqL.of q)⟩⟩
    refine for_it w (fun i σ2 H2 => ∃ A2 Γ2 Δ2, Ext A1 H1 A2 H2 ∧ Slots X.K C S A2 H2 σ2 Γ2 ∧ Cells X.K C S A2 H2 Δ2 ∧ loopC n ds (fun x Z' Γ' Δ' => zg x Γ' Δ' fun Γ2 Δ2 => zb Z' Γ2 Δ2) Z (ds.drop i) Γ2 Δ2)
      ⟨A1, Γ, Δ1, Ext.refl _ _, hs.ext e1, c1, p⟩ (fun i σ2 H2 _ ⟨A2, Γ2, Δ2, e2, _, c2, q⟩ => ?_) ?_ ?_
    · obtain ⟨B, hB, _⟩ := e2.pre
      have ha2 : A2[n]? = some a := by rw [hB, List.getElem?_append_left (List.getElem?_eq_some_iff.mp ha).1]; exact ha
      obtain ⟨xs, q1, q2⟩ := c2.lst_ ha2 (loopC_at q)
      exact ⟨xs, q1, q2.length⟩
    · rintro i x σ2 H2 H3 hi ⟨A2, Γ2, Δ2, e2, s2, c2, q⟩ ⟨rfl, y⟩
      obtain ⟨B, hB, _⟩ := e2.pre
      have ha2 : A2[n]? = some a := by rw [hB, List.getElem?_append_left (List.getElem?_eq_some_iff.mp ha).1]; exact ha
      obtain ⟨xs, q1, q2⟩ := c2.lst_ ha2 (loopC_at q)
      obtain ⟨d, d1, d2⟩ := q2.getV (y xs q1)
      have hd : ds.drop i = d :: ds.drop (i + 1) := by
        obtain ⟨hl, q⟩ := List.getElem?_eq_some_iff.mp d1
        rw [← q]
        exact List.drop_eq_getElem_cons hl
      rw [hd] at q
      refine hg.ref S A2 σ2 H3 Γ2 Δ2 x d _ _ s2 c2 d2 q.2 fun σ4 A4 H4 Γ4 Δ4 e4 s4 c4 p4 => ?_
      have e14 := e2.trans e4
      refine b2 S A4 σ4 H4 Γ4 Δ4 _ _ s4 c4 p4 ⟨?_, ?_, ?_, ?_⟩
      · exact fun σ5 A5 H5 Γ5 Δ5 e5 s5 c5 p5 => ⟨A5, Γ5, Δ5, e14.trans e5, s5, c5, p5⟩
      · exact k.nx.ext (e1.trans e14)
      · exact fun σ5 A5 H5 Γ5 Δ5 e5 s5 c5 p5 => ⟨A5, Γ5, Δ5, e14.trans e5, s5, c5, p5⟩
      · exact fun v d A5 H5 Δ5 e5 c5 r5 p5 => k.rt v d A5 H5 Δ5 ((e1.trans e14).trans e5) c5 r5 p5
    · rintro σ2 H2 ⟨A2, Γ2, Δ2, e2, s2, c2, q⟩
      rw [List.drop_length] at q
      exact k.nx σ2 A2 H2 Γ2 Δ2 (e1.trans e2) s2 c2 q.2
end
/-- a loop over a cell that stays as it is -/
theorem loopC_all {n : Nat} {ds : List D} {body : D → ZS} {Z : ZEnds} {I : Env → Store → Prop} : ∀ (xs : List D) (Γ : Env) (Δ : Store), I Γ Δ → (∀ Γ Δ, I Γ Δ → Δ[n]? = some (.lst ds)) →
    (∀ x Γ Δ (Z' : ZEnds), x ∈ xs → I Γ Δ → (∀ Γ' Δ', I Γ' Δ' → Z'.nx Γ' Δ') → Z'.rt = Z.rt → body x Z' Γ Δ) → (∀ Γ Δ, I Γ Δ → Z.nx Γ Δ) → loopC n ds body Z xs Γ Δ
  | [], Γ, Δ, h, hat, _, he => ⟨hat Γ Δ h, he Γ Δ h⟩
  | x :: xs, Γ, Δ, h, hat, hb, he => ⟨hat Γ Δ h, hb x Γ Δ _ List.mem_cons_self h (fun Γ' Δ' h' => loopC_all xs Γ' Δ' h' hat (fun y Γ Δ Z' hy => hb y Γ Δ Z' (List.mem_cons_of_mem _ hy)) he) rfl⟩
end Z

namespace Bx
open PySem PySem.Spec PyProof.Rows L2 Z
/-! ### the text by places -/
def top (i : Nat) : Stmt := PySem.Challenge.pw_boxrows_k39_lines_of_far_patterns.main.body.getD i (.Pass ⟨0, 0, 0, 0⟩)
abbrev s__law_crib : Stmt := top 42
abbrev s__law_pluck : Stmt := top 43
abbrev s_is_int : Stmt := top 12
abbrev s_in_bounds : Stmt := top 22
abbrev s_are_box_numbers : Stmt := top 23
abbrev s_Box_d_init_d : Stmt := inClass (top 24) 0
abbrev s__law_made : Stmt := top 49
abbrev s__law_limit : Stmt := top 44
abbrev s__law_own : Stmt := top 50
abbrev s_Lines_turn : Stmt := inClass (top 36) 3
abbrev s_Lines_line_with : Stmt := inClass (top 36) 5
abbrev s_Lines_number : Stmt := inClass (top 36) 6
abbrev s_check_boxes : Stmt := top 28
abbrev s_check_pattern : Stmt := top 34
abbrev s_check_whole : Stmt := top 30
abbrev s_limited : Stmt := top 21
abbrev s_Box_own : Stmt := inClass (top 24) 6
abbrev s_boxes_that_fit : Stmt := top 35
abbrev s_Lines_length_at : Stmt := inClass (top 36) 1
abbrev s_Lines_add_line : Stmt := inClass (top 36) 2
abbrev s_Lines_d_init_d : Stmt := inClass (top 36) 0
abbrev s_lines_of : Stmt := top 37
abbrev s_count_lines : Stmt := top 38
abbrev s_check_index : Stmt := top 31
abbrev s_Lines_begin : Stmt := inClass (top 36) 4
abbrev s_line_of : Stmt := top 39
abbrev s_Lines_length : Stmt := inClass (top 36) 7
abbrev s_line_at : Stmt := top 40
abbrev s__law_sum : Stmt := top 51
abbrev s__law_line_right : Stmt := top 52
abbrev s__law_right : Stmt := top 53
abbrev s__law_width : Stmt := top 45
abbrev s__law_weight : Stmt := top 46
abbrev s__law_box : Stmt := top 47
abbrev s__law_pattern : Stmt := top 48
abbrev s_law : Stmt := top 54
abbrev N__law_crib : List Str := ["script", "k", "cell"]
theorem sc__law_crib : FnScope ["script", "k", "cell"] ["script", "k"] (defScope s__law_crib) := ⟨rfl, rfl, rfl, by decide +kernel, rfl, by decide +kernel, by decide +kernel⟩
abbrev N__law_pluck : List Str := ["crib", "many", "found", "mixed"]
theorem sc__law_pluck : FnScope ["crib", "many", "found", "mixed"] ["crib", "many"] (defScope s__law_pluck) := ⟨rfl, rfl, rfl, by decide +kernel, rfl, by decide +kernel, by decide +kernel⟩
abbrev N_is_int : List Str := ["value"]
theorem sc_is_int : FnScope ["value"] ["value"] (defScope s_is_int) := ⟨rfl, rfl, rfl, by decide +kernel, rfl, by decide +kernel, by decide +kernel⟩
abbrev N_in_bounds : List Str := ["value", "top"]
theorem sc_in_bounds : FnScope ["value", "top"] ["value", "top"] (defScope s_in_bounds) := ⟨rfl, rfl, rfl, by decide +kernel, rfl, by decide +kernel, by decide +kernel⟩
abbrev N_are_box_numbers : List Str := ["wish", "least", "most", "grow", "shrink", "widths", "width", "weight"]
theorem sc_are_box_numbers : FnScope ["wish", "least", "most", "grow", "shrink", "widths", "width", "weight"] ["wish", "least", "most", "grow", "shrink"] (defScope s_are_box_numbers) := ⟨rfl, rfl, rfl, by decide +kernel, rfl, by decide +kernel, by decide +kernel⟩
abbrev N_Box_d_init_d : List Str := ["self", "wish", "least", "most", "grow", "shrink"]
theorem sc_Box_d_init_d : FnScope ["self", "wish", "least", "most", "grow", "shrink"] ["self", "wish", "least", "most", "grow", "shrink"] (defScope s_Box_d_init_d) := ⟨rfl, rfl, rfl, by decide +kernel, rfl, by decide +kernel, by decide +kernel⟩
abbrev N__law_made : List Str := ["pattern", "numbers"]
theorem sc__law_made : FnScope ["pattern", "numbers"] ["pattern"] (defScope s__law_made) := ⟨rfl, rfl, rfl, by decide +kernel, rfl, by decide +kernel, by decide +kernel⟩
abbrev N__law_limit : List Str := ["box", "number"]
theorem sc__law_limit : FnScope ["box", "number"] ["box", "number"] (defScope s__law_limit) := ⟨rfl, rfl, rfl, by decide +kernel, rfl, by decide +kernel, by decide +kernel⟩
abbrev N__law_own : List Str := ["numbers"]
theorem sc__law_own : FnScope ["numbers"] ["numbers"] (defScope s__law_own) := ⟨rfl, rfl, rfl, by decide +kernel, rfl, by decide +kernel, by decide +kernel⟩
abbrev N_Lines_turn : List Str := ["self"]
theorem sc_Lines_turn : FnScope ["self"] ["self"] (defScope s_Lines_turn) := ⟨rfl, rfl, rfl, by decide +kernel, rfl, by decide +kernel, by decide +kernel⟩
abbrev N_Lines_line_with : List Str := ["self", "box", "lines", "boxes", "turns", "rest", "start"]
theorem sc_Lines_line_with : FnScope ["self", "box", "lines", "boxes", "turns", "rest", "start"] ["self", "box"] (defScope s_Lines_line_with) := ⟨rfl, rfl, rfl, by decide +kernel, rfl, by decide +kernel, by decide +kernel⟩
abbrev N_Lines_number : List Str := ["self"]
theorem sc_Lines_number : FnScope ["self"] ["self"] (defScope s_Lines_number) := ⟨rfl, rfl, rfl, by decide +kernel, rfl, by decide +kernel, by decide +kernel⟩
abbrev N_check_boxes : List Str := ["boxes", "box"]
theorem sc_check_boxes : FnScope ["boxes", "box"] ["boxes"] (defScope s_check_boxes) := ⟨rfl, rfl, rfl, by decide +kernel, rfl, by decide +kernel, by decide +kernel⟩
abbrev N_check_pattern : List Str := ["boxes", "gap", "times"]
theorem sc_check_pattern : FnScope ["boxes", "gap", "times"] ["boxes", "gap", "times"] (defScope s_check_pattern) := ⟨rfl, rfl, rfl, by decide +kernel, rfl, by decide +kernel, by decide +kernel⟩
abbrev N_check_whole : List Str := ["whole"]
theorem sc_check_whole : FnScope ["whole"] ["whole"] (defScope s_check_whole) := ⟨rfl, rfl, rfl, by decide +kernel, rfl, by decide +kernel, by decide +kernel⟩
abbrev N_limited : List Str := ["value", "least", "most"]
theorem sc_limited : FnScope ["value", "least", "most"] ["value", "least", "most"] (defScope s_limited) := ⟨rfl, rfl, rfl, by decide +kernel, rfl, by decide +kernel, by decide +kernel⟩
abbrev N_Box_own : List Str := ["self"]
theorem sc_Box_own : FnScope ["self"] ["self"] (defScope s_Box_own) := ⟨rfl, rfl, rfl, by decide +kernel, rfl, by decide +kernel, by decide +kernel⟩
abbrev N_boxes_that_fit : List Str := ["costs", "place", "room", "patterns", "rest", "many", "at"]
theorem sc_boxes_that_fit : FnScope ["costs", "place", "room", "patterns", "rest", "many", "at"] ["costs", "place", "room"] (defScope s_boxes_that_fit) := ⟨rfl, rfl, rfl, by decide +kernel, rfl, by decide +kernel, by decide +kernel⟩
abbrev N_Lines_length_at : List Str := ["self", "place"]
theorem sc_Lines_length_at : FnScope ["self", "place"] ["self", "place"] (defScope s_Lines_length_at) := ⟨rfl, rfl, rfl, by decide +kernel, rfl, by decide +kernel, by decide +kernel⟩
abbrev N_Lines_add_line : List Str := ["self", "begin", "places", "start"]
theorem sc_Lines_add_line : FnScope ["self", "begin", "places", "start"] ["self"] (defScope s_Lines_add_line) := ⟨rfl, rfl, rfl, by decide +kernel, rfl, by decide +kernel, by decide +kernel⟩
abbrev N_Lines_d_init_d : List Str := ["self", "boxes", "gap", "times", "whole", "box"]
theorem sc_Lines_d_init_d : FnScope ["self", "boxes", "gap", "times", "whole", "box"] ["self", "boxes", "gap", "times", "whole"] (defScope s_Lines_d_init_d) := ⟨rfl, rfl, rfl, by decide +kernel, rfl, by decide +kernel, by decide +kernel⟩
abbrev N_lines_of : List Str := ["boxes", "gap", "times", "whole"]
theorem sc_lines_of : FnScope ["boxes", "gap", "times", "whole"] ["boxes", "gap", "times", "whole"] (defScope s_lines_of) := ⟨rfl, rfl, rfl, by decide +kernel, rfl, by decide +kernel, by decide +kernel⟩
abbrev N_count_lines : List Str := ["boxes", "gap", "times", "whole"]
theorem sc_count_lines : FnScope ["boxes", "gap", "times", "whole"] ["boxes", "gap", "times", "whole"] (defScope s_count_lines) := ⟨rfl, rfl, rfl, by decide +kernel, rfl, by decide +kernel, by decide +kernel⟩
abbrev N_check_index : List Str := ["index", "many"]
theorem sc_check_index : FnScope ["index", "many"] ["index", "many"] (defScope s_check_index) := ⟨rfl, rfl, rfl, by decide +kernel, rfl, by decide +kernel, by decide +kernel⟩
abbrev N_Lines_begin : List Str := ["self", "index", "lines", "boxes", "turns", "more"]
theorem sc_Lines_begin : FnScope ["self", "index", "lines", "boxes", "turns", "more"] ["self", "index"] (defScope s_Lines_begin) := ⟨rfl, rfl, rfl, by decide +kernel, rfl, by decide +kernel, by decide +kernel⟩
abbrev N_line_of : List Str := ["boxes", "gap", "times", "whole", "index", "lines", "line"]
theorem sc_line_of : FnScope ["boxes", "gap", "times", "whole", "index", "lines", "line"] ["boxes", "gap", "times", "whole", "index"] (defScope s_line_of) := ⟨rfl, rfl, rfl, by decide +kernel, rfl, by decide +kernel, by decide +kernel⟩
abbrev N_Lines_length : List Str := ["self", "index", "begin"]
theorem sc_Lines_length : FnScope ["self", "index", "begin"] ["self", "index"] (defScope s_Lines_length) := ⟨rfl, rfl, rfl, by decide +kernel, rfl, by decide +kernel, by decide +kernel⟩
abbrev N_line_at : List Str := ["boxes", "gap", "times", "whole", "index", "lines"]
theorem sc_line_at : FnScope ["boxes", "gap", "times", "whole", "index", "lines"] ["boxes", "gap", "times", "whole", "index"] (defScope s_line_at) := ⟨rfl, rfl, rfl, by decide +kernel, rfl, by decide +kernel, by decide +kernel⟩
abbrev N__law_sum : List Str := ["widths", "first", "many", "turns_here", "rest", "place", "some"]
theorem sc__law_sum : FnScope ["widths", "first", "many", "turns_here", "rest", "place", "some"] ["widths", "first", "many"] (defScope s__law_sum) := ⟨rfl, rfl, rfl, by decide +kernel, rfl, by decide +kernel, by decide +kernel⟩
abbrev N__law_line_right : List Str := ["told", "widths", "gap", "whole_here", "line", "total", "first", "many", "place"]
theorem sc__law_line_right : FnScope ["told", "widths", "gap", "whole_here", "line", "total", "first", "many", "place"] ["told", "widths", "gap", "whole_here", "line"] (defScope s__law_line_right) := ⟨rfl, rfl, rfl, by decide +kernel, rfl, by decide +kernel, by decide +kernel⟩
abbrev N__law_right : List Str := ["crib", "pattern", "most", "boxes", "gap", "times_here", "widths", "one", "some", "turn", "whole_here", "told", "many", "last", "end", "line", "numbers"]
theorem sc__law_right : FnScope ["crib", "pattern", "most", "boxes", "gap", "times_here", "widths", "one", "some", "turn", "whole_here", "told", "many", "last", "end", "line", "numbers"] ["crib", "pattern", "most"] (defScope s__law_right) := ⟨rfl, rfl, rfl, by decide +kernel, rfl, by decide +kernel, by decide +kernel⟩
abbrev N__law_width : List Str := ["crib", "most", "some"]
theorem sc__law_width : FnScope ["crib", "most", "some"] ["crib", "most"] (defScope s__law_width) := ⟨rfl, rfl, rfl, by decide +kernel, rfl, by decide +kernel, by decide +kernel⟩
abbrev N__law_weight : List Str := ["crib", "heavy"]
theorem sc__law_weight : FnScope ["crib", "heavy"] ["crib", "heavy"] (defScope s__law_weight) := ⟨rfl, rfl, rfl, by decide +kernel, rfl, by decide +kernel, by decide +kernel⟩
abbrev N__law_box : List Str := ["crib", "most", "heavy", "least", "top"]
theorem sc__law_box : FnScope ["crib", "most", "heavy", "least", "top"] ["crib", "most", "heavy"] (defScope s__law_box) := ⟨rfl, rfl, rfl, by decide +kernel, rfl, by decide +kernel, by decide +kernel⟩
abbrev N__law_pattern : List Str := ["crib", "many", "most", "found", "turn", "numbers"]
theorem sc__law_pattern : FnScope ["crib", "many", "most", "found", "turn", "numbers"] ["crib", "many", "most"] (defScope s__law_pattern) := ⟨rfl, rfl, rfl, by decide +kernel, rfl, by decide +kernel, by decide +kernel⟩
abbrev N_law : List Str := ["script", "k", "crib", "some", "many", "most", "boxes"]
theorem sc_law : FnScope ["script", "k", "crib", "some", "many", "most", "boxes"] ["script"] (defScope s_law) := ⟨rfl, rfl, rfl, by decide +kernel, rfl, by decide +kernel, by decide +kernel⟩
/-! ### the readings over data -/
def nmsOf : Nat → List Str
  | 0 => ["_wish", "_least", "_most", "_grow", "_shrink"]
  | 1 => ["wide", "amount", "costs", "room", "starts", "again"]
  | _ => []
section
/-- _law_crib(script, k); slots 0:script 1:k 2:cell -/
def z__law_crib (K : PySem.W.Frag) (C : CI) : ZS := zSeq (zAsg (zIf (zTest (zOp (zI0 fun i j => .bl (decide (i < j))) (zVar 1) (zCB zLen (zCons (zVar 0) (zNil))))) (zOp zIx (zVar 0) (zVar 1)) (zC (.int 0))) (zgName 2))
    (zRet (zLstC (zCons (zCB zMax2 (zCons (zC (.int 0)) (zCons (zOp (zI0 fun i j => .int (i - j)) (zVar 2) (zOp (zI CPow fun i j => .int (i ^ j.toNat)) (zC (.int 10)) (zC (.int 18)))) (zNil)))) (zCons (zOp (zI0 fun i j => .int (i + j)) (zOp (zI0 fun i j => .int (i + j)) (zOp (zI MulOk fun i j => .int (i * j)) (zOp (zI (fun _ j => 0 < j) fun i j => .int (i % j)) (zVar 2) (zOp (zI0 fun i j => .int (i + j)) (zOp (zI CPow fun i j => .int (i ^ j.toNat)) (zC (.int 10)) (zC (.int 37))) (zC (.int 43)))) (zC (.int 113))) (zOp (zI MulOk fun i j => .int (i * j)) (zC (.int 50021)) (zVar 1))) (zC (.int 17))) (zCons (zC (.int 0)) (zNil))))))
def W__law_crib (K : PySem.W.Frag) (C : CI) : ZRC := fun ds Δ P => ds.length = 2 ∧ z__law_crib K C { nx := fun _ Δ' => P .non Δ', rt := P } (startZ ["script", "k", "cell"] ds) Δ
/-- _law_pluck(crib, many); slots 0:crib 1:many 2:found 3:mixed -/
def z__law_pluck (K : PySem.W.Frag) (C : CI) : ZS := zSeq (zIfS (zTest (zOp (zI0 fun i j => .bl (decide (j < i))) (zOp zIx (zVar 0) (zC (.int 0))) (zC (.int 0)))) (zSeq (zAsg (zOp (zI (fun _ j => 0 < j) fun i j => .int (i % j)) (zOp zIx (zVar 0) (zC (.int 0))) (zVar 1)) (zgName 2))
    (zSeq (zAsg (zOp (zI CDivW fun i j => .int (i / j)) (zOp zIx (zVar 0) (zC (.int 0))) (zVar 1)) (zgSub (zVar 0) (zC (.int 0))))
    (zRet (zVar 2)))) (zNext))
    (zSeq (zAsg (zOp (zI0 fun i j => .int (i + j)) (zOp zIx (zVar 0) (zC (.int 2))) (zC (.int 1))) (zgSub (zVar 0) (zC (.int 2))))
    (zSeq (zAsg (zOp (zI (fun _ j => 0 < j) fun i j => .int (i % j)) (zOp (zI CPowW fun i j => .int (i ^ j.toNat)) (zOp (zI0 fun i j => .int (i + j)) (zOp zIx (zVar 0) (zC (.int 1))) (zOp (zI MulOk fun i j => .int (i * j)) (zC (.int 15485863)) (zOp zIx (zVar 0) (zC (.int 2))))) (zC (.int 3))) (zOp (zI0 fun i j => .int (i + j)) (zOp (zI CPow fun i j => .int (i ^ j.toNat)) (zC (.int 10)) (zC (.int 40))) (zC (.int 121)))) (zgName 3))
    (zSeq (zAsg (zOp (zI (fun _ j => 0 < j) fun i j => .int (i % j)) (zOp (zI CPowW fun i j => .int (i ^ j.toNat)) (zOp (zI0 fun i j => .int (i + j)) (zVar 3) (zOp (zI MulOk fun i j => .int (i * j)) (zC (.int 32452867)) (zOp zIx (zVar 0) (zC (.int 2))))) (zC (.int 3))) (zOp (zI0 fun i j => .int (i + j)) (zOp (zI CPow fun i j => .int (i ^ j.toNat)) (zC (.int 10)) (zC (.int 43))) (zC (.int 57)))) (zgName 3))
    (zRet (zOp (zI (fun _ j => 0 < j) fun i j => .int (i % j)) (zOp (zI CDivW fun i j => .int (i / j)) (zVar 3) (zC (.int 524309))) (zVar 1))))))
def W__law_pluck (K : PySem.W.Frag) (C : CI) : ZRC := fun ds Δ P => ds.length = 2 ∧ z__law_pluck K C { nx := fun _ Δ' => P .non Δ', rt := P } (startZ ["crib", "many", "found", "mixed"] ds) Δ
/-- is_int(value); slots 0:value -/
def z_is_int (K : PySem.W.Frag) (C : CI) : ZS := zRet (zAndV (zCB (zIsi K C) (zCons (zVar 0) (zCons (zC (.ty "int")) (zNil)))) (zNotV (zCB (zIsi K C) (zCons (zVar 0) (zCons (zC (.ty "bool")) (zNil))))))
def W_is_int (K : PySem.W.Frag) (C : CI) : ZRC := fun ds Δ P => ds.length = 1 ∧ z_is_int K C { nx := fun _ Δ' => P .non Δ', rt := P } (startZ ["value"] ds) Δ
/-- in_bounds(value, top); slots 0:value 1:top -/
def z_in_bounds (K : PySem.W.Frag) (C : CI) : ZS := zRet (zAndV (zCall (W_is_int K C) [] (zCons (zVar 0) (zNil))) (zChain (zI0 fun i j => .bl (decide (i ≤ j))) (zI0 fun i j => .bl (decide (i ≤ j))) (zC (.int 0)) (zVar 0) (zVar 1)))
def W_in_bounds (K : PySem.W.Frag) (C : CI) : ZRC := fun ds Δ P => ds.length = 2 ∧ z_in_bounds K C { nx := fun _ Δ' => P .non Δ', rt := P } (startZ ["value", "top"] ds) Δ
/-- are_box_numbers(wish, least, most, grow, shrink); slots 0:wish 1:least 2:most 3:grow 4:shrink 5:widths 6:width 7:weight -/
def z_are_box_numbers (K : PySem.W.Frag) (C : CI) : ZS := zSeq (zAsg (zIf (zTest (zOp zIsN (zVar 2) (zC .non))) (zLst (zCons (zVar 0) (zCons (zVar 1) (zNil)))) (zLst (zCons (zVar 0) (zCons (zVar 1) (zCons (zVar 2) (zNil)))))) (zgName 5))
    (zRet (zAndV (zCB zAll (zCons (zLc (ziList (zVar 5)) (zgName 6) (zYes) (zCall (W_in_bounds K C) [] (zCons (zVar 6) (zCons (zC (.int 1000000000000000000000000000000)) (zNil)))) [6]) (zNil))) (zAndV (zCB zAll (zCons (zLc (ziTup (zTup (zCons (zVar 3) (zCons (zVar 4) (zNil))))) (zgName 7) (zYes) (zCall (W_in_bounds K C) [] (zCons (zVar 7) (zCons (zC (.int 1000000)) (zNil)))) [7]) (zNil))) (zOrV (zOp zIsN (zVar 2) (zC .non)) (zOp (zI0 fun i j => .bl (decide (i ≤ j))) (zVar 1) (zVar 2))))))
def W_are_box_numbers (K : PySem.W.Frag) (C : CI) : ZRC := fun ds Δ P => ds.length = 5 ∧ z_are_box_numbers K C { nx := fun _ Δ' => P .non Δ', rt := P } (startZ ["wish", "least", "most", "grow", "shrink", "widths", "width", "weight"] ds) Δ
/-- Box.__init__(self, wish, least, most, grow, shrink); slots 0:self 1:wish 2:least 3:most 4:grow 5:shrink -/
def z_Box_d_init_d (K : PySem.W.Frag) (C : CI) : ZS := zSeq (zIfS (zNot (zTest (zCall (W_are_box_numbers K C) [] (zCons (zVar 1) (zCons (zVar 2) (zCons (zVar 3) (zCons (zVar 4) (zCons (zVar 5) (zNil))))))))) (zNever) (zNext))
    (zSeq (zSetF 0 (Str.ofString "_wish") (zVar 0) (zVar 1))
    (zSeq (zSetF 0 (Str.ofString "_least") (zVar 0) (zVar 2))
    (zSeq (zSetF 0 (Str.ofString "_most") (zVar 0) (zVar 3))
    (zSeq (zSetF 0 (Str.ofString "_grow") (zVar 0) (zVar 4))
    (zSetF 0 (Str.ofString "_shrink") (zVar 0) (zVar 5))))))
def W_Box_d_init_d (K : PySem.W.Frag) (C : CI) : ZRC := fun ds Δ P => ds.length = 6 ∧ z_Box_d_init_d K C { nx := fun _ Δ' => P .non Δ', rt := P } (startZ ["self", "wish", "least", "most", "grow", "shrink"] ds) Δ
/-- _law_made(pattern); slots 0:pattern 1:numbers -/
def z__law_made (K : PySem.W.Frag) (C : CI) : ZS := zRet (zLc (ziList (zVar 0)) (zgName 1) (zYes) (zMakeF C 0 (W_Box_d_init_d K C) [] (zCons (zOp zIx (zVar 1) (zC (.int 0))) (zCons (zOp zIx (zVar 1) (zC (.int 1))) (zCons (zOp zIx (zVar 1) (zC (.int 2))) (zCons (zOp zIx (zVar 1) (zC (.int 3))) (zCons (zOp zIx (zVar 1) (zC (.int 4))) (zNil))))))) [1])
def W__law_made (K : PySem.W.Frag) (C : CI) : ZRC := fun ds Δ P => ds.length = 1 ∧ z__law_made K C { nx := fun _ Δ' => P .non Δ', rt := P } (startZ ["pattern", "numbers"] ds) Δ
/-- _law_limit(box, number); slots 0:box 1:number -/
def z__law_limit (K : PySem.W.Frag) (C : CI) : ZS := zSeq (zIfS (zTest (zOp (zI0 fun i j => .bl (decide (i < j))) (zOp zIx (zVar 1) (zC (.int 0))) (zOp (zI MulOk fun i j => .int (i * j)) (zOp zIx (zVar 0) (zC (.int 1))) (zOp zIx (zVar 1) (zC (.int 1)))))) (zRet (zTup (zCons (zOp zIx (zVar 0) (zC (.int 1))) (zCons (zC (.int 1)) (zNil))))) (zNext))
    (zSeq (zIfS (zAnd (zTest (zOp zNotN (zOp zIx (zVar 0) (zC (.int 2))) (zC .non))) (zTest (zOp (zI0 fun i j => .bl (decide (j < i))) (zOp zIx (zVar 1) (zC (.int 0))) (zOp (zI MulOk fun i j => .int (i * j)) (zOp zIx (zVar 0) (zC (.int 2))) (zOp zIx (zVar 1) (zC (.int 1))))))) (zRet (zTup (zCons (zOp zIx (zVar 0) (zC (.int 2))) (zCons (zC (.int 1)) (zNil))))) (zNext))
    (zRet (zVar 1)))
def W__law_limit (K : PySem.W.Frag) (C : CI) : ZRC := fun ds Δ P => ds.length = 2 ∧ z__law_limit K C { nx := fun _ Δ' => P .non Δ', rt := P } (startZ ["box", "number"] ds) Δ
/-- _law_own(numbers); slots 0:numbers -/
def z__law_own (K : PySem.W.Frag) (C : CI) : ZS := zRet (zOp zIx (zCall (W__law_limit K C) [] (zCons (zVar 0) (zCons (zTup (zCons (zOp zIx (zVar 0) (zC (.int 0))) (zCons (zC (.int 1)) (zNil)))) (zNil)))) (zC (.int 0)))
def W__law_own (K : PySem.W.Frag) (C : CI) : ZRC := fun ds Δ P => ds.length = 1 ∧ z__law_own K C { nx := fun _ Δ' => P .non Δ', rt := P } (startZ ["numbers"] ds) Δ
/-- Lines.turn(self); slots 0:self -/
def z_Lines_turn (K : PySem.W.Frag) (C : CI) : ZS := zRet (zTup (zCons (zOp (zI0 fun i j => .int (i - j)) (zOp (zI0 fun i j => .int (i - j)) (zCB zLen (zCons (zFld C 1 (Str.ofString "starts") (zVar 0)) (zNil))) (zC (.int 1))) (zFld C 1 (Str.ofString "again") (zVar 0))) (zCons (zOp (zI0 fun i j => .int (i - j)) (zOp zIx (zFld C 1 (Str.ofString "starts") (zVar 0)) (zUn zNeg (zC (.int 1)))) (zOp zIx (zFld C 1 (Str.ofString "starts") (zVar 0)) (zFld C 1 (Str.ofString "again") (zVar 0)))) (zNil))))
def W_Lines_turn (K : PySem.W.Frag) (C : CI) : ZRC := fun ds Δ P => ds.length = 1 ∧ z_Lines_turn K C { nx := fun _ Δ' => P .non Δ', rt := P } (startZ ["self"] ds) Δ
/-- Lines.line_with(self, box); slots 0:self 1:box 2:lines 3:boxes 4:turns 5:rest 6:start -/
def z_Lines_line_with (K : PySem.W.Frag) (C : CI) : ZS := zSeq (zAsg (zMeth C 1 (Str.ofString "turn") (W_Lines_turn K C) (zVar 0) zNil) (zgTup 2 (zgCons (zgName 2) (zgCons (zgName 3) (zgNil)))))
    (zSeq (zAsg (zCB zMax2 (zCons (zC (.int 0)) (zCons (zOp (zI CDivW fun i j => .int (i / j)) (zOp (zI0 fun i j => .int (i - j)) (zVar 1) (zOp zIx (zFld C 1 (Str.ofString "starts") (zVar 0)) (zFld C 1 (Str.ofString "again") (zVar 0)))) (zVar 3)) (zNil)))) (zgName 4))
    (zSeq (zAsg (zOp (zI0 fun i j => .int (i - j)) (zVar 1) (zOp (zI MulOk fun i j => .int (i * j)) (zVar 4) (zVar 3))) (zgName 5))
    (zRet (zOp (zI0 fun i j => .int (i - j)) (zOp (zI0 fun i j => .int (i + j)) (zOp (zI MulOk fun i j => .int (i * j)) (zVar 4) (zVar 2)) (zCB zLen (zCons (zLc (ziList (zFld C 1 (Str.ofString "starts") (zVar 0))) (zgName 6) (zTest (zOp (zI0 fun i j => .bl (decide (i ≤ j))) (zVar 6) (zVar 5))) (zVar 6) [6]) (zNil)))) (zC (.int 1))))))
def W_Lines_line_with (K : PySem.W.Frag) (C : CI) : ZRC := fun ds Δ P => ds.length = 2 ∧ z_Lines_line_with K C { nx := fun _ Δ' => P .non Δ', rt := P } (startZ ["self", "box", "lines", "boxes", "turns", "rest", "start"] ds) Δ
/-- Lines.number(self); slots 0:self -/
def z_Lines_number (K : PySem.W.Frag) (C : CI) : ZS := zRet (zOp (zI0 fun i j => .int (i + j)) (zMeth C 1 (Str.ofString "line_with") (W_Lines_line_with K C) (zVar 0) (zCons (zOp (zI0 fun i j => .int (i - j)) (zFld C 1 (Str.ofString "amount") (zVar 0)) (zC (.int 1))) (zNil))) (zC (.int 1)))
def W_Lines_number (K : PySem.W.Frag) (C : CI) : ZRC := fun ds Δ P => ds.length = 1 ∧ z_Lines_number K C { nx := fun _ Δ' => P .non Δ', rt := P } (startZ ["self"] ds) Δ
/-- check_boxes(boxes); slots 0:boxes 1:box -/
def z_check_boxes (K : PySem.W.Frag) (C : CI) : ZS := zSeq (zIfS (zOr (zNot (zTest (zCB (zIsi K C) (zCons (zVar 0) (zCons (zC (.ty "list")) (zNil)))))) (zNot (zTest (zChain (zI0 fun i j => .bl (decide (i ≤ j))) (zI0 fun i j => .bl (decide (i ≤ j))) (zC (.int 1)) (zCB zLen (zCons (zVar 0) (zNil))) (zC (.int 40)))))) (zNever) (zNext))
    (zIfS (zNot (zTest (zCB zAll (zCons (zLc (ziList (zVar 0)) (zgName 1) (zYes) (zCB (zIsi K C) (zCons (zVar 1) (zCons (zC (.cls 0)) (zNil)))) [1]) (zNil))))) (zNever) (zNext))
def W_check_boxes (K : PySem.W.Frag) (C : CI) : ZRC := fun ds Δ P => ds.length = 1 ∧ z_check_boxes K C { nx := fun _ Δ' => P .non Δ', rt := P } (startZ ["boxes", "box"] ds) Δ
/-- check_pattern(boxes, gap, times); slots 0:boxes 1:gap 2:times -/
def z_check_pattern (K : PySem.W.Frag) (C : CI) : ZS := zSeq (zDrop (zCall (W_check_boxes K C) [] (zCons (zVar 0) (zNil))))
    (zSeq (zIfS (zNot (zTest (zCall (W_in_bounds K C) [] (zCons (zVar 1) (zCons (zC (.int 1000000000000000000000000000000)) (zNil)))))) (zNever) (zNext))
    (zIfS (zOr (zNot (zTest (zCall (W_in_bounds K C) [] (zCons (zVar 2) (zCons (zC (.int 1000000000000000000000000000000)) (zNil)))))) (zTest (zOp zEqD (zVar 2) (zC (.int 0))))) (zNever) (zNext)))
def W_check_pattern (K : PySem.W.Frag) (C : CI) : ZRC := fun ds Δ P => ds.length = 3 ∧ z_check_pattern K C { nx := fun _ Δ' => P .non Δ', rt := P } (startZ ["boxes", "gap", "times"] ds) Δ
/-- check_whole(whole); slots 0:whole -/
def z_check_whole (K : PySem.W.Frag) (C : CI) : ZS := zIfS (zOr (zNot (zTest (zCall (W_is_int K C) [] (zCons (zVar 0) (zNil))))) (zTest (zOp (zI0 fun i j => .bl (decide (i < j))) (zVar 0) (zC (.int 0))))) (zNever) (zNext)
def W_check_whole (K : PySem.W.Frag) (C : CI) : ZRC := fun ds Δ P => ds.length = 1 ∧ z_check_whole K C { nx := fun _ Δ' => P .non Δ', rt := P } (startZ ["whole"] ds) Δ
/-- limited(value, least, most); slots 0:value 1:least 2:most -/
def z_limited (K : PySem.W.Frag) (C : CI) : ZS := zSeq (zIfS (zTest (zOp (zI0 fun i j => .bl (decide (i < j))) (zVar 0) (zVar 1))) (zRet (zVar 1)) (zNext))
    (zSeq (zIfS (zAnd (zTest (zOp zNotN (zVar 2) (zC .non))) (zTest (zOp (zI0 fun i j => .bl (decide (j < i))) (zVar 0) (zVar 2)))) (zRet (zVar 2)) (zNext))
    (zRet (zVar 0)))
def W_limited (K : PySem.W.Frag) (C : CI) : ZRC := fun ds Δ P => ds.length = 3 ∧ z_limited K C { nx := fun _ Δ' => P .non Δ', rt := P } (startZ ["value", "least", "most"] ds) Δ
/-- Box.own(self); slots 0:self -/
def z_Box_own (K : PySem.W.Frag) (C : CI) : ZS := zRet (zCall (W_limited K C) [] (zCons (zFld C 0 (Str.ofString "_wish") (zVar 0)) (zCons (zFld C 0 (Str.ofString "_least") (zVar 0)) (zCons (zFld C 0 (Str.ofString "_most") (zVar 0)) (zNil)))))
def W_Box_own (K : PySem.W.Frag) (C : CI) : ZRC := fun ds Δ P => ds.length = 1 ∧ z_Box_own K C { nx := fun _ Δ' => P .non Δ', rt := P } (startZ ["self"] ds) Δ
/-- boxes_that_fit(costs, place, room); slots 0:costs 1:place 2:room 3:patterns 4:rest 5:many 6:at -/
def z_boxes_that_fit (K : PySem.W.Frag) (C : CI) : ZS := zSeq (zAsg (zCB zDivmod (zCons (zVar 2) (zCons (zCB zSum (zCons (zVar 0) (zNil))) (zNil)))) (zgTup 2 (zgCons (zgName 3) (zgCons (zgName 4) (zgNil)))))
    (zSeq (zPar 5 6 (zCons (zOp (zI MulOk fun i j => .int (i * j)) (zVar 3) (zCB zLen (zCons (zVar 0) (zNil)))) (zCons (zVar 1) (zNil))))
    (zSeq (zWhile (zTest (zOp (zI0 fun i j => .bl (decide (i ≤ j))) (zOp zIx (zVar 0) (zVar 6)) (zVar 4))) (zSeq (zAug 4 (fun i j => i - j) (zOp zIx (zVar 0) (zVar 6)))
    (zSeq (zAug 5 (fun i j => i + j) (zC (.int 1)))
    (zAsg (zOp (zI (fun _ j => 0 < j) fun i j => .int (i % j)) (zOp (zI0 fun i j => .int (i + j)) (zVar 6) (zC (.int 1))) (zCB zLen (zCons (zVar 0) (zNil)))) (zgName 6)))))
    (zRet (zVar 5))))
def W_boxes_that_fit (K : PySem.W.Frag) (C : CI) : ZRC := fun ds Δ P => ds.length = 3 ∧ z_boxes_that_fit K C { nx := fun _ Δ' => P .non Δ', rt := P } (startZ ["costs", "place", "room", "patterns", "rest", "many", "at"] ds) Δ
/-- Lines.length_at(self, place); slots 0:self 1:place -/
def z_Lines_length_at (K : PySem.W.Frag) (C : CI) : ZS := zSeq (zIfS (zTest (zOp zEqD (zCB zSum (zCons (zFld C 1 (Str.ofString "costs") (zVar 0)) (zNil))) (zC (.int 0)))) (zRet (zFld C 1 (Str.ofString "amount") (zVar 0))) (zNext))
    (zRet (zCB zMax2 (zCons (zC (.int 1)) (zCons (zCall (W_boxes_that_fit K C) [] (zCons (zFld C 1 (Str.ofString "costs") (zVar 0)) (zCons (zVar 1) (zCons (zFld C 1 (Str.ofString "room") (zVar 0)) (zNil))))) (zNil)))))
def W_Lines_length_at (K : PySem.W.Frag) (C : CI) : ZRC := fun ds Δ P => ds.length = 2 ∧ z_Lines_length_at K C { nx := fun _ Δ' => P .non Δ', rt := P } (startZ ["self", "place"] ds) Δ
/-- Lines.add_line(self); slots 0:self 1:begin 2:places 3:start -/
def z_Lines_add_line (K : PySem.W.Frag) (C : CI) : ZS := zSeq (zAsg (zOp (zI0 fun i j => .int (i + j)) (zOp zIx (zFld C 1 (Str.ofString "starts") (zVar 0)) (zUn zNeg (zC (.int 1)))) (zMeth C 1 (Str.ofString "length_at") (W_Lines_length_at K C) (zVar 0) (zCons (zOp (zI (fun _ j => 0 < j) fun i j => .int (i % j)) (zOp zIx (zFld C 1 (Str.ofString "starts") (zVar 0)) (zUn zNeg (zC (.int 1)))) (zFld C 1 (Str.ofString "wide") (zVar 0))) (zNil)))) (zgName 1))
    (zSeq (zAsg (zLendX C (zLcC (ziList (zFld C 1 (Str.ofString "starts") (zVar 0))) (zgName 3) (zYes) (zOp (zI (fun _ j => 0 < j) fun i j => .int (i % j)) (zVar 3) (zFld C 1 (Str.ofString "wide") (zVar 0))) [3])) (zgName 2))
    (zSeq (zDrop (zAppend (zFld C 1 (Str.ofString "starts") (zVar 0)) (zCons (zVar 1) (zNil))))
    (zIfS (zTest (zOp zIn (zOp (zI (fun _ j => 0 < j) fun i j => .int (i % j)) (zVar 1) (zFld C 1 (Str.ofString "wide") (zVar 0))) (zVar 2))) (zSetF 1 (Str.ofString "again") (zVar 0) (zIndex (zVar 2) (zCons (zOp (zI (fun _ j => 0 < j) fun i j => .int (i % j)) (zVar 1) (zFld C 1 (Str.ofString "wide") (zVar 0))) (zNil)))) (zNext))))
def W_Lines_add_line (K : PySem.W.Frag) (C : CI) : ZRC := fun ds Δ P => ds.length = 1 ∧ z_Lines_add_line K C { nx := fun _ Δ' => P .non Δ', rt := P } (startZ ["self", "begin", "places", "start"] ds) Δ
/-- Lines.__init__(self, boxes, gap, times, whole); slots 0:self 1:boxes 2:gap 3:times 4:whole 5:box -/
def z_Lines_d_init_d (K : PySem.W.Frag) (C : CI) : ZS := zSeq (zSetF 1 (Str.ofString "wide") (zVar 0) (zCB zLen (zCons (zVar 1) (zNil))))
    (zSeq (zSetF 1 (Str.ofString "amount") (zVar 0) (zOp (zI MulOk fun i j => .int (i * j)) (zCB zLen (zCons (zVar 1) (zNil))) (zVar 3)))
    (zSeq (zSetF 1 (Str.ofString "costs") (zVar 0) (zLc (ziList (zVar 1)) (zgName 5) (zYes) (zOp (zI0 fun i j => .int (i + j)) (zProp 0 (W_Box_own K C) (zVar 5)) (zVar 2)) [5]))
    (zSeq (zSetF 1 (Str.ofString "room") (zVar 0) (zOp (zI0 fun i j => .int (i + j)) (zVar 4) (zVar 2)))
    (zSeq (zSetF 1 (Str.ofString "starts") (zVar 0) (zLstC (zCons (zC (.int 0)) (zNil))))
    (zSeq (zSetF 1 (Str.ofString "again") (zVar 0) (zC .non))
    (zWhile (zTest (zOp zIsN (zFld C 1 (Str.ofString "again") (zVar 0)) (zC .non))) (zDrop (zMeth C 1 (Str.ofString "add_line") (W_Lines_add_line K C) (zVar 0) zNil))))))))
def W_Lines_d_init_d (K : PySem.W.Frag) (C : CI) : ZRC := fun ds Δ P => ds.length = 5 ∧ z_Lines_d_init_d K C { nx := fun _ Δ' => P .non Δ', rt := P } (startZ ["self", "boxes", "gap", "times", "whole", "box"] ds) Δ
/-- lines_of(boxes, gap, times, whole); slots 0:boxes 1:gap 2:times 3:whole -/
def z_lines_of (K : PySem.W.Frag) (C : CI) : ZS := zSeq (zDrop (zCall (W_check_pattern K C) [] (zCons (zVar 0) (zCons (zVar 1) (zCons (zVar 2) (zNil))))))
    (zSeq (zDrop (zCall (W_check_whole K C) [] (zCons (zVar 3) (zNil))))
    (zRet (zMakeX C 1 (W_Lines_d_init_d K C) [] (zCons (zVar 0) (zCons (zVar 1) (zCons (zVar 2) (zCons (zVar 3) (zNil))))))))
def W_lines_of (K : PySem.W.Frag) (C : CI) : ZRC := fun ds Δ P => ds.length = 4 ∧ z_lines_of K C { nx := fun _ Δ' => P .non Δ', rt := P } (startZ ["boxes", "gap", "times", "whole"] ds) Δ
/-- count_lines(boxes, gap, times, whole); slots 0:boxes 1:gap 2:times 3:whole -/
def z_count_lines (K : PySem.W.Frag) (C : CI) : ZS := zRet (zMeth C 1 (Str.ofString "number") (W_Lines_number K C) (zCall (W_lines_of K C) [] (zCons (zVar 0) (zCons (zVar 1) (zCons (zVar 2) (zCons (zVar 3) (zNil)))))) zNil)
def W_count_lines (K : PySem.W.Frag) (C : CI) : ZRC := fun ds Δ P => ds.length = 4 ∧ z_count_lines K C { nx := fun _ Δ' => P .non Δ', rt := P } (startZ ["boxes", "gap", "times", "whole"] ds) Δ
/-- check_index(index, many); slots 0:index 1:many -/
def z_check_index (K : PySem.W.Frag) (C : CI) : ZS := zIfS (zOr (zNot (zTest (zCall (W_is_int K C) [] (zCons (zVar 0) (zNil))))) (zNot (zTest (zChain (zI0 fun i j => .bl (decide (i ≤ j))) (zI0 fun i j => .bl (decide (i < j))) (zC (.int 0)) (zVar 0) (zVar 1))))) (zNever) (zNext)
def W_check_index (K : PySem.W.Frag) (C : CI) : ZRC := fun ds Δ P => ds.length = 2 ∧ z_check_index K C { nx := fun _ Δ' => P .non Δ', rt := P } (startZ ["index", "many"] ds) Δ
/-- Lines.begin(self, index); slots 0:self 1:index 2:lines 3:boxes 4:turns 5:more -/
def z_Lines_begin (K : PySem.W.Frag) (C : CI) : ZS := zSeq (zIfS (zTest (zOp (zI0 fun i j => .bl (decide (i < j))) (zVar 1) (zCB zLen (zCons (zFld C 1 (Str.ofString "starts") (zVar 0)) (zNil))))) (zRet (zOp zIx (zFld C 1 (Str.ofString "starts") (zVar 0)) (zVar 1))) (zNext))
    (zSeq (zAsg (zMeth C 1 (Str.ofString "turn") (W_Lines_turn K C) (zVar 0) zNil) (zgTup 2 (zgCons (zgName 2) (zgCons (zgName 3) (zgNil)))))
    (zSeq (zAsg (zCB zDivmod (zCons (zOp (zI0 fun i j => .int (i - j)) (zVar 1) (zFld C 1 (Str.ofString "again") (zVar 0))) (zCons (zVar 2) (zNil)))) (zgTup 2 (zgCons (zgName 4) (zgCons (zgName 5) (zgNil)))))
    (zRet (zOp (zI0 fun i j => .int (i + j)) (zOp zIx (zFld C 1 (Str.ofString "starts") (zVar 0)) (zOp (zI0 fun i j => .int (i + j)) (zFld C 1 (Str.ofString "again") (zVar 0)) (zVar 5))) (zOp (zI MulOk fun i j => .int (i * j)) (zVar 4) (zVar 3))))))
def W_Lines_begin (K : PySem.W.Frag) (C : CI) : ZRC := fun ds Δ P => ds.length = 2 ∧ z_Lines_begin K C { nx := fun _ Δ' => P .non Δ', rt := P } (startZ ["self", "index", "lines", "boxes", "turns", "more"] ds) Δ
/-- line_of(boxes, gap, times, whole, index); slots 0:boxes 1:gap 2:times 3:whole 4:index 5:lines 6:line -/
def z_line_of (K : PySem.W.Frag) (C : CI) : ZS := zSeq (zAsg (zCall (W_lines_of K C) [] (zCons (zVar 0) (zCons (zVar 1) (zCons (zVar 2) (zCons (zVar 3) (zNil)))))) (zgName 5))
    (zSeq (zDrop (zCall (W_check_index K C) [] (zCons (zVar 4) (zCons (zFld C 1 (Str.ofString "amount") (zVar 5)) (zNil)))))
    (zSeq (zAsg (zMeth C 1 (Str.ofString "line_with") (W_Lines_line_with K C) (zVar 5) (zCons (zVar 4) (zNil))) (zgName 6))
    (zRet (zTup (zCons (zVar 6) (zCons (zOp (zI0 fun i j => .int (i - j)) (zVar 4) (zMeth C 1 (Str.ofString "begin") (W_Lines_begin K C) (zVar 5) (zCons (zVar 6) (zNil)))) (zNil)))))))
def W_line_of (K : PySem.W.Frag) (C : CI) : ZRC := fun ds Δ P => ds.length = 5 ∧ z_line_of K C { nx := fun _ Δ' => P .non Δ', rt := P } (startZ ["boxes", "gap", "times", "whole", "index", "lines", "line"] ds) Δ
/-- Lines.length(self, index); slots 0:self 1:index 2:begin -/
def z_Lines_length (K : PySem.W.Frag) (C : CI) : ZS := zSeq (zAsg (zMeth C 1 (Str.ofString "begin") (W_Lines_begin K C) (zVar 0) (zCons (zVar 1) (zNil))) (zgName 2))
    (zRet (zCB zMin2 (zCons (zMeth C 1 (Str.ofString "length_at") (W_Lines_length_at K C) (zVar 0) (zCons (zOp (zI (fun _ j => 0 < j) fun i j => .int (i % j)) (zVar 2) (zFld C 1 (Str.ofString "wide") (zVar 0))) (zNil))) (zCons (zOp (zI0 fun i j => .int (i - j)) (zFld C 1 (Str.ofString "amount") (zVar 0)) (zVar 2)) (zNil)))))
def W_Lines_length (K : PySem.W.Frag) (C : CI) : ZRC := fun ds Δ P => ds.length = 2 ∧ z_Lines_length K C { nx := fun _ Δ' => P .non Δ', rt := P } (startZ ["self", "index", "begin"] ds) Δ
/-- line_at(boxes, gap, times, whole, index); slots 0:boxes 1:gap 2:times 3:whole 4:index 5:lines -/
def z_line_at (K : PySem.W.Frag) (C : CI) : ZS := zSeq (zAsg (zCall (W_lines_of K C) [] (zCons (zVar 0) (zCons (zVar 1) (zCons (zVar 2) (zCons (zVar 3) (zNil)))))) (zgName 5))
    (zSeq (zDrop (zCall (W_check_index K C) [] (zCons (zVar 4) (zCons (zMeth C 1 (Str.ofString "number") (W_Lines_number K C) (zVar 5) zNil) (zNil)))))
    (zRet (zTup (zCons (zMeth C 1 (Str.ofString "begin") (W_Lines_begin K C) (zVar 5) (zCons (zVar 4) (zNil))) (zCons (zMeth C 1 (Str.ofString "length") (W_Lines_length K C) (zVar 5) (zCons (zVar 4) (zNil))) (zNil))))))
def W_line_at (K : PySem.W.Frag) (C : CI) : ZRC := fun ds Δ P => ds.length = 5 ∧ z_line_at K C { nx := fun _ Δ' => P .non Δ', rt := P } (startZ ["boxes", "gap", "times", "whole", "index", "lines"] ds) Δ
/-- _law_sum(widths, first, many); slots 0:widths 1:first 2:many 3:turns_here 4:rest 5:place 6:some -/
def z__law_sum (K : PySem.W.Frag) (C : CI) : ZS := zSeq (zPar 3 4 (zCons (zOp (zI CDivW fun i j => .int (i / j)) (zVar 2) (zCB zLen (zCons (zVar 0) (zNil)))) (zCons (zOp (zI (fun _ j => 0 < j) fun i j => .int (i % j)) (zVar 2) (zCB zLen (zCons (zVar 0) (zNil)))) (zNil))))
    (zSeq (zAsg (zOp (zI (fun _ j => 0 < j) fun i j => .int (i % j)) (zVar 1) (zCB zLen (zCons (zVar 0) (zNil)))) (zgName 5))
    (zSeq (zAsg (zSl (zOp zCat (zVar 0) (zVar 0)) (zPart (zVar 5)) (zPart (zOp (zI0 fun i j => .int (i + j)) (zVar 5) (zVar 4)))) (zgName 6))
    (zRet (zOp (zI0 fun i j => .int (i + j)) (zOp (zI MulOk fun i j => .int (i * j)) (zVar 3) (zCB zSum (zCons (zVar 0) (zNil)))) (zCB zSum (zCons (zVar 6) (zNil)))))))
def W__law_sum (K : PySem.W.Frag) (C : CI) : ZRC := fun ds Δ P => ds.length = 3 ∧ z__law_sum K C { nx := fun _ Δ' => P .non Δ', rt := P } (startZ ["widths", "first", "many", "turns_here", "rest", "place", "some"] ds) Δ
/-- _law_line_right(told, widths, gap, whole_here, line); slots 0:told 1:widths 2:gap 3:whole_here 4:line 5:total 6:first 7:many 8:place -/
def z__law_line_right (K : PySem.W.Frag) (C : CI) : ZS := zSeq (zAsg (zOp (zI MulOk fun i j => .int (i * j)) (zCB zLen (zCons (zVar 1) (zNil))) (zOp zIx (zVar 0) (zC (.int 2)))) (zgName 5))
    (zSeq (zAsg (zCall (W_line_at K C) [] (zCons (zOp zIx (zVar 0) (zC (.int 0))) (zCons (zOp zIx (zVar 0) (zC (.int 1))) (zCons (zOp zIx (zVar 0) (zC (.int 2))) (zCons (zVar 3) (zCons (zVar 4) (zNil))))))) (zgTup 2 (zgCons (zgName 6) (zgCons (zgName 7) (zgNil)))))
    (zSeq (zIfS (zOr (zTest (zOp (zI0 fun i j => .bl (decide (i < j))) (zVar 7) (zC (.int 1)))) (zOr (zTest (zOp (zI0 fun i j => .bl (decide (j < i))) (zOp (zI0 fun i j => .int (i + j)) (zVar 6) (zVar 7)) (zVar 5))) (zTest (zOp zNeD (zOp zEqD (zVar 4) (zC (.int 0))) (zOp zEqD (zVar 6) (zC (.int 0))))))) (zRet (zC (.bl false))) (zNext))
    (zSeq (zIfS (zAnd (zTest (zOp (zI0 fun i j => .bl (decide (j < i))) (zVar 4) (zC (.int 0)))) (zTest (zOp zNeD (zCB zSumA (zCons (zCall (W_line_at K C) [] (zCons (zOp zIx (zVar 0) (zC (.int 0))) (zCons (zOp zIx (zVar 0) (zC (.int 1))) (zCons (zOp zIx (zVar 0) (zC (.int 2))) (zCons (zVar 3) (zCons (zOp (zI0 fun i j => .int (i - j)) (zVar 4) (zC (.int 1))) (zNil))))))) (zNil))) (zVar 6)))) (zRet (zC (.bl false))) (zNext))
    (zSeq (zIfS (zAnd (zTest (zOp (zI0 fun i j => .bl (decide (j < i))) (zVar 7) (zC (.int 1)))) (zTest (zOp (zI0 fun i j => .bl (decide (j < i))) (zOp (zI0 fun i j => .int (i + j)) (zCall (W__law_sum K C) [] (zCons (zVar 1) (zCons (zVar 6) (zCons (zVar 7) (zNil))))) (zOp (zI MulOk fun i j => .int (i * j)) (zVar 2) (zOp (zI0 fun i j => .int (i - j)) (zVar 7) (zC (.int 1))))) (zVar 3)))) (zRet (zC (.bl false))) (zNext))
    (zSeq (zIfS (zAnd (zTest (zOp (zI0 fun i j => .bl (decide (i < j))) (zOp (zI0 fun i j => .int (i + j)) (zVar 6) (zVar 7)) (zVar 5))) (zTest (zOp (zI0 fun i j => .bl (decide (i ≤ j))) (zOp (zI0 fun i j => .int (i + j)) (zCall (W__law_sum K C) [] (zCons (zVar 1) (zCons (zVar 6) (zCons (zOp (zI0 fun i j => .int (i + j)) (zVar 7) (zC (.int 1))) (zNil))))) (zOp (zI MulOk fun i j => .int (i * j)) (zVar 2) (zVar 7))) (zVar 3)))) (zRet (zC (.bl false))) (zNext))
    (zSeq (zFor (ziTup (zTup (zCons (zC (.int 0)) (zCons (zOp (zI0 fun i j => .int (i - j)) (zVar 7) (zC (.int 1))) (zCons (zOp (zI CDivW fun i j => .int (i / j)) (zVar 7) (zC (.int 2))) (zNil)))))) (zgName 8) (zIfS (zTest (zOp zNeD (zCall (W_line_of K C) [] (zCons (zOp zIx (zVar 0) (zC (.int 0))) (zCons (zOp zIx (zVar 0) (zC (.int 1))) (zCons (zOp zIx (zVar 0) (zC (.int 2))) (zCons (zVar 3) (zCons (zOp (zI0 fun i j => .int (i + j)) (zVar 6) (zVar 8)) (zNil))))))) (zTup (zCons (zVar 4) (zCons (zVar 8) (zNil)))))) (zRet (zC (.bl false))) (zNext)))
    (zRet (zC (.bl true)))))))))
def W__law_line_right (K : PySem.W.Frag) (C : CI) : ZRC := fun ds Δ P => ds.length = 5 ∧ z__law_line_right K C { nx := fun _ Δ' => P .non Δ', rt := P } (startZ ["told", "widths", "gap", "whole_here", "line", "total", "first", "many", "place"] ds) Δ
/-- _law_right(crib, pattern, most); slots 0:crib 1:pattern 2:most 3:boxes 4:gap 5:times_here 6:widths 7:one 8:some 9:turn 10:whole_here 11:told 12:many 13:last 14:end 15:line 16:numbers -/
def z__law_right (K : PySem.W.Frag) (C : CI) : ZS := zSeq (zPar 3 4 (zCons (zCall (W__law_made K C) [] (zCons (zVar 1) (zNil))) (zCons (zOp zIx (zLst (zCons (zC (.int 0)) (zCons (zCall (W__law_pluck K C) [] (zCons (zVar 0) (zCons (zC (.int 9)) (zNil)))) (zCons (zCall (W__law_pluck K C) [] (zCons (zVar 0) (zCons (zOp (zI0 fun i j => .int (i + j)) (zVar 2) (zC (.int 1))) (zNil)))) (zNil))))) (zCall (W__law_pluck K C) [] (zCons (zVar 0) (zCons (zC (.int 3)) (zNil))))) (zNil))))
    (zSeq (zAsg (zOp zIx (zLst (zCons (zOp (zI CPow fun i j => .int (i ^ j.toNat)) (zC (.int 10)) (zC (.int 30))) (zCons (zOp (zI0 fun i j => .int (i + j)) (zC (.int 1)) (zCall (W__law_pluck K C) [] (zCons (zVar 0) (zCons (zOp (zI CPow fun i j => .int (i ^ j.toNat)) (zC (.int 10)) (zC (.int 30))) (zNil))))) (zCons (zOp (zI0 fun i j => .int (i + j)) (zC (.int 1)) (zCall (W__law_pluck K C) [] (zCons (zVar 0) (zCons (zC (.int 99)) (zNil))))) (zNil))))) (zCall (W__law_pluck K C) [] (zCons (zVar 0) (zCons (zC (.int 3)) (zNil))))) (zgName 5))
    (zSeq (zAsg (zLc (ziList (zVar 1)) (zgName 16) (zYes) (zCall (W__law_own K C) [] (zCons (zVar 16) (zNil))) [16]) (zgName 6))
    (zSeq (zAsg (zOp (zI0 fun i j => .int (i + j)) (zCB zSum (zCons (zVar 6) (zNil))) (zOp (zI MulOk fun i j => .int (i * j)) (zVar 4) (zCB zLen (zCons (zVar 6) (zNil))))) (zgName 7))
    (zSeq (zAsg (zLst (zCons (zCall (W__law_pluck K C) [] (zCons (zVar 0) (zCons (zOp (zI0 fun i j => .int (i + j)) (zVar 7) (zC (.int 1))) (zNil)))) (zCons (zCB zMax1 (zCons (zVar 6) (zNil))) (zCons (zOp (zI0 fun i j => .int (i + j)) (zOp (zI MulOk fun i j => .int (i * j)) (zVar 7) (zCall (W__law_pluck K C) [] (zCons (zVar 0) (zCons (zC (.int 9)) (zNil))))) (zCall (W__law_pluck K C) [] (zCons (zVar 0) (zCons (zOp (zI0 fun i j => .int (i + j)) (zVar 7) (zC (.int 1))) (zNil))))) (zNil))))) (zgName 8))
    (zSeq (zAsg (zOp zCat (zVar 8) (zLst (zCons (zOp (zI MulOk fun i j => .int (i * j)) (zVar 7) (zCall (W__law_pluck K C) [] (zCons (zVar 0) (zCons (zOp (zI CPow fun i j => .int (i ^ j.toNat)) (zC (.int 10)) (zC (.int 30))) (zNil))))) (zCons (zC (.int 0)) (zNil))))) (zgName 8))
    (zSeq (zFor (ziR1 (zCons (zC (.int 3)) (zNil))) (zgName 9) (zSeq (zAsg (zOp zIx (zVar 8) (zCall (W__law_pluck K C) [] (zCons (zVar 0) (zCons (zC (.int 5)) (zNil))))) (zgName 10))
    (zSeq (zAsg (zTup (zCons (zVar 3) (zCons (zVar 4) (zCons (zVar 5) (zNil))))) (zgName 11))
    (zSeq (zAsg (zCall (W_count_lines K C) [] (zCons (zVar 3) (zCons (zVar 4) (zCons (zVar 5) (zCons (zVar 10) (zNil)))))) (zgName 12))
    (zSeq (zAsg (zCall (W_line_of K C) [] (zCons (zVar 3) (zCons (zVar 4) (zCons (zVar 5) (zCons (zVar 10) (zCons (zOp (zI0 fun i j => .int (i - j)) (zOp (zI MulOk fun i j => .int (i * j)) (zCB zLen (zCons (zVar 1) (zNil))) (zVar 5)) (zC (.int 1))) (zNil))))))) (zgName 13))
    (zSeq (zAsg (zCB zSumA (zCons (zCall (W_line_at K C) [] (zCons (zVar 3) (zCons (zVar 4) (zCons (zVar 5) (zCons (zVar 10) (zCons (zOp (zI0 fun i j => .int (i - j)) (zVar 12) (zC (.int 1))) (zNil))))))) (zNil))) (zgName 14))
    (zSeq (zIfS (zOr (zTest (zOp zNeD (zOp zIx (zVar 13) (zC (.int 0))) (zOp (zI0 fun i j => .int (i - j)) (zVar 12) (zC (.int 1))))) (zTest (zOp zNeD (zVar 14) (zOp (zI MulOk fun i j => .int (i * j)) (zCB zLen (zCons (zVar 1) (zNil))) (zVar 5))))) (zRet (zC (.bl false))) (zNext))
    (zFor (ziList (zLst (zCons (zC (.int 0)) (zCons (zOp (zI0 fun i j => .int (i - j)) (zVar 12) (zC (.int 1))) (zCons (zCall (W__law_pluck K C) [] (zCons (zVar 0) (zCons (zVar 12) (zNil)))) (zCons (zCB zMin2 (zCons (zOp (zI0 fun i j => .int (i - j)) (zVar 12) (zC (.int 1))) (zCons (zCall (W__law_pluck K C) [] (zCons (zVar 0) (zCons (zC (.int 60)) (zNil)))) (zNil)))) (zNil))))))) (zgName 15) (zIfS (zNot (zTest (zCall (W__law_line_right K C) [] (zCons (zVar 11) (zCons (zVar 6) (zCons (zVar 4) (zCons (zVar 10) (zCons (zVar 15) (zNil))))))))) (zRet (zC (.bl false))) (zNext))))))))))
    (zRet (zC (.bl true)))))))))
def W__law_right (K : PySem.W.Frag) (C : CI) : ZRC := fun ds Δ P => ds.length = 3 ∧ z__law_right K C { nx := fun _ Δ' => P .non Δ', rt := P } (startZ ["crib", "pattern", "most", "boxes", "gap", "times_here", "widths", "one", "some", "turn", "whole_here", "told", "many", "last", "end", "line", "numbers"] ds) Δ
/-- _law_width(crib, most); slots 0:crib 1:most 2:some -/
def z__law_width (K : PySem.W.Frag) (C : CI) : ZS := zSeq (zAsg (zLst (zCons (zCall (W__law_pluck K C) [] (zCons (zVar 0) (zCons (zC (.int 4)) (zNil)))) (zCons (zCall (W__law_pluck K C) [] (zCons (zVar 0) (zCons (zOp (zI0 fun i j => .int (i + j)) (zVar 1) (zC (.int 1))) (zNil)))) (zCons (zCall (W__law_pluck K C) [] (zCons (zVar 0) (zCons (zOp (zI0 fun i j => .int (i + j)) (zCB zMin2 (zCons (zVar 1) (zCons (zC (.int 20)) (zNil)))) (zC (.int 1))) (zNil)))) (zCons (zVar 1) (zNil)))))) (zgName 2))
    (zRet (zCB zMin2 (zCons (zVar 1) (zCons (zOp zIx (zVar 2) (zCall (W__law_pluck K C) [] (zCons (zVar 0) (zCons (zC (.int 4)) (zNil))))) (zNil)))))
def W__law_width (K : PySem.W.Frag) (C : CI) : ZRC := fun ds Δ P => ds.length = 2 ∧ z__law_width K C { nx := fun _ Δ' => P .non Δ', rt := P } (startZ ["crib", "most", "some"] ds) Δ
/-- _law_weight(crib, heavy); slots 0:crib 1:heavy -/
def z__law_weight (K : PySem.W.Frag) (C : CI) : ZS := zRet (zOp zIx (zLst (zCons (zC (.int 0)) (zCons (zC (.int 1)) (zCons (zOp (zI0 fun i j => .int (i + j)) (zC (.int 1)) (zCall (W__law_pluck K C) [] (zCons (zVar 0) (zCons (zC (.int 4)) (zNil))))) (zCons (zCall (W__law_pluck K C) [] (zCons (zVar 0) (zCons (zOp (zI0 fun i j => .int (i + j)) (zVar 1) (zC (.int 1))) (zNil)))) (zNil)))))) (zCall (W__law_pluck K C) [] (zCons (zVar 0) (zCons (zC (.int 4)) (zNil)))))
def W__law_weight (K : PySem.W.Frag) (C : CI) : ZRC := fun ds Δ P => ds.length = 2 ∧ z__law_weight K C { nx := fun _ Δ' => P .non Δ', rt := P } (startZ ["crib", "heavy"] ds) Δ
/-- _law_box(crib, most, heavy); slots 0:crib 1:most 2:heavy 3:least 4:top -/
def z__law_box (K : PySem.W.Frag) (C : CI) : ZS := zSeq (zAsg (zOp zIx (zLst (zCons (zC (.int 0)) (zCons (zCall (W__law_width K C) [] (zCons (zVar 0) (zCons (zVar 1) (zNil)))) (zNil)))) (zCall (W__law_pluck K C) [] (zCons (zVar 0) (zCons (zC (.int 2)) (zNil))))) (zgName 3))
    (zSeq (zAsg (zOp zIx (zLst (zCons (zC .non) (zCons (zC .non) (zCons (zVar 3) (zCons (zOp (zI0 fun i j => .int (i + j)) (zVar 3) (zCall (W__law_pluck K C) [] (zCons (zVar 0) (zCons (zOp (zI0 fun i j => .int (i + j)) (zOp (zI0 fun i j => .int (i - j)) (zVar 1) (zVar 3)) (zC (.int 1))) (zNil))))) (zNil)))))) (zCall (W__law_pluck K C) [] (zCons (zVar 0) (zCons (zC (.int 4)) (zNil))))) (zgName 4))
    (zRet (zTup (zCons (zCall (W__law_width K C) [] (zCons (zVar 0) (zCons (zVar 1) (zNil)))) (zCons (zVar 3) (zCons (zVar 4) (zCons (zCall (W__law_weight K C) [] (zCons (zVar 0) (zCons (zVar 2) (zNil)))) (zCons (zCall (W__law_weight K C) [] (zCons (zVar 0) (zCons (zVar 2) (zNil)))) (zNil)))))))))
def W__law_box (K : PySem.W.Frag) (C : CI) : ZRC := fun ds Δ P => ds.length = 3 ∧ z__law_box K C { nx := fun _ Δ' => P .non Δ', rt := P } (startZ ["crib", "most", "heavy", "least", "top"] ds) Δ
/-- _law_pattern(crib, many, most); slots 0:crib 1:many 2:most 3:found 4:turn 5:numbers -/
def z__law_pattern (K : PySem.W.Frag) (C : CI) : ZS := zSeq (zAsg (zLstC (zNil)) (zgName 3))
    (zSeq (zFor (ziR1 (zCons (zVar 1) (zNil))) (zgName 4) (zSeq (zAsg (zCall (W__law_box K C) [] (zCons (zVar 0) (zCons (zVar 2) (zCons (zOp zIx (zLst (zCons (zC (.int 4)) (zCons (zOp (zI CPow fun i j => .int (i ^ j.toNat)) (zC (.int 10)) (zC (.int 6))) (zNil)))) (zCall (W__law_pluck K C) [] (zCons (zVar 0) (zCons (zC (.int 2)) (zNil))))) (zNil))))) (zgName 5))
    (zDrop (zAppend (zVar 3) (zCons (zIf (zTest (zOp zEqD (zCall (W__law_pluck K C) [] (zCons (zVar 0) (zCons (zC (.int 6)) (zNil)))) (zC (.int 0)))) (zOp zCatT (zTup (zCons (zC (.int 0)) (zCons (zC (.int 0)) (zNil)))) (zSlT (zVar 5) (zPart (zC (.int 2))) zNoPart)) (zVar 5)) (zNil))))))
    (zRet (zVar 3)))
def W__law_pattern (K : PySem.W.Frag) (C : CI) : ZRC := fun ds Δ P => ds.length = 3 ∧ z__law_pattern K C { nx := fun _ Δ' => P .non Δ', rt := P } (startZ ["crib", "many", "most", "found", "turn", "numbers"] ds) Δ
/-- law(script); slots 0:script 1:k 2:crib 3:some 4:many 5:most 6:boxes -/
def z_law (K : PySem.W.Frag) (C : CI) : ZS := zSeq (zFor (ziR1 (zCons (zCB zMax2 (zCons (zC (.int 1)) (zCons (zCB zMin2 (zCons (zC (.int 6)) (zCons (zCB zLen (zCons (zVar 0) (zNil))) (zNil)))) (zNil)))) (zNil))) (zgName 1) (zSeq (zAsg (zCall (W__law_crib K C) [] (zCons (zVar 0) (zCons (zVar 1) (zNil)))) (zgName 2))
    (zSeq (zAsg (zLstC (zCons (zTup (zCons (zOp (zI0 fun i j => .int (i + j)) (zC (.int 1)) (zCall (W__law_pluck K C) [] (zCons (zVar 2) (zCons (zC (.int 9)) (zNil))))) (zCons (zOp (zI CPow fun i j => .int (i ^ j.toNat)) (zC (.int 10)) (zC (.int 30))) (zNil)))) (zCons (zTup (zCons (zOp (zI0 fun i j => .int (i + j)) (zC (.int 1)) (zCall (W__law_pluck K C) [] (zCons (zVar 2) (zCons (zC (.int 3)) (zNil))))) (zCons (zC (.int 9)) (zNil)))) (zNil)))) (zgName 3))
    (zSeq (zIfS (zTest (zOp zEqD (zVar 1) (zC (.int 0)))) (zDrop (zAppend (zVar 3) (zCons (zTup (zCons (zC (.int 40)) (zCons (zC (.int 20)) (zNil)))) (zNil)))) (zNext))
    (zForC (zVar 3) (zgTup 2 (zgCons (zgName 4) (zgCons (zgName 5) (zgNil)))) (zIfS (zNot (zTest (zCall (W__law_right K C) [] (zCons (zVar 2) (zCons (zCall (frzM (W__law_pattern K C)) [] (zCons (zVar 2) (zCons (zVar 4) (zCons (zVar 5) (zNil))))) (zCons (zVar 5) (zNil))))))) (zRet (zC (.bl false))) (zNext)))))))
    (zSeq (zAsg (zLst (zCons (zMakeF C 0 (W_Box_d_init_d K C) [.int 0, .non, .int 0, .int 0] (zCons (zC (.int 3)) (zNil))) (zCons (zMakeF C 0 (W_Box_d_init_d K C) [.int 0, .non, .int 0, .int 0] (zCons (zC (.int 4)) (zNil))) (zCons (zMakeF C 0 (W_Box_d_init_d K C) [.int 0, .non, .int 0, .int 0] (zCons (zC (.int 2)) (zNil))) (zNil))))) (zgName 6))
    (zRet (zAndV (zOp zEqD (zCall (W_count_lines K C) [] (zCons (zVar 6) (zCons (zC (.int 1)) (zCons (zOp (zI CPow fun i j => .int (i ^ j.toNat)) (zC (.int 10)) (zC (.int 30))) (zCons (zC (.int 10)) (zNil)))))) (zOp (zI MulOk fun i j => .int (i * j)) (zC (.int 15)) (zOp (zI CPow fun i j => .int (i ^ j.toNat)) (zC (.int 10)) (zC (.int 29))))) (zOp zEqD (zCall (W_count_lines K C) [] (zCons (zLst (zCons (zMakeF C 0 (W_Box_d_init_d K C) [.int 0, .non, .int 0, .int 0] (zCons (zC (.int 0)) (zNil))) (zNil))) (zCons (zC (.int 0)) (zCons (zOp (zI CPow fun i j => .int (i ^ j.toNat)) (zC (.int 10)) (zC (.int 30))) (zCons (zC (.int 0)) (zNil)))))) (zC (.int 1))))))
def W_law (K : PySem.W.Frag) (C : CI) : ZRC := fun ds Δ P => ds.length = 1 ∧ z_law K C { nx := fun _ Δ' => P .non Δ', rt := P } (startZ ["script", "k", "crib", "some", "many", "most", "boxes"] ds) Δ
end
end Bx

namespace Bx
open PySem PySem.Spec PyProof.Rows L2 Z
local macro_rules | `(tactic| walk_at "zz") => `(tactic| simp only [zSeq, zAsg, zRet, zRetN, zIfS, zNext, zDrop, zPar, zPar3, zAug, zDivmod, zIndex, zCatT, zSlT, zMeth, zVar, zC, zOp, zUn, zNeg, zI0, zI, zTest, zAnd, zOr, zNot, zAndV, zOrV, zNotV, zIf, zNil, zCons, zTup, zLst, zLstC, zgName, zgTup, zgCons, zgNil, zgSub, startZ, zCall, zCB, zChain, zIsN, zNotN, zNever,
  zAddA, zMulA, zRepeat, zCat, zIx, seqD, lstD, zMax2, zMin2, zAbs, zLen, zSum, zGcd, zInt, zYes, zBreak, zCont, zMin1, zMax1, zList, zListC, zLcC, zLc, ziR1, ziR2, ziList, ziTup, ziZip, ziEnum, wipeZ, zFor, zSl, zPart, zNoPart, zAppend, zLstR1, zLstR2, zCallBC, zCallBF,
  at0, at1, at2, at3, at4, ix2_3, ix0_3, isNon_int, isNon_non, Bool.not_true, Bool.not_false,
  List.map_cons, List.map_nil, List.length_cons, List.length_nil, List.replicate_succ, List.replicate_zero, List.append_nil, List.nil_append, List.cons_append, List.getElem?_cons_zero, List.getElem?_cons_succ, List.set_cons_zero, List.set_cons_succ,
  Option.some.injEq, D.int.injEq, D.bl.injEq, D.tup.injEq, D.lst.injEq, D.str.injEq, D.cell.injEq, O.lst.injEq, reduceCtorEq, exists_eq_left', exists_eq_left, false_and, and_false, true_and, and_true, exists_false, or_false, false_or, exists_and_left, exists_eq', exists_and_right, List.cons.injEq, and_assoc, dec_not, dec_yes, nd_t, nd_f, t_t, t_f, f_t, f_f, true_implies, false_implies, implies_true, and_self, Nat.reduceAdd, Nat.reduceLeDiff, Nat.reduceSub, Nat.reduceLT])
local macro_rules | `(tactic| walk_at "zy") => `(tactic| try simp only [Option.some.injEq, D.int.injEq, D.bl.injEq, D.tup.injEq, D.lst.injEq, D.str.injEq, D.cell.injEq, O.lst.injEq, reduceCtorEq, exists_eq_left', exists_eq_left, false_and, and_false, true_and, and_true, exists_false, or_false, false_or, exists_and_left, exists_eq', exists_and_right, List.cons.injEq, and_assoc, dec_not, dec_yes, nd_t, nd_f, t_t, t_f, f_t, f_f, true_implies, false_implies, implies_true, and_self])
/-! ### the fount: three ints in a cell, asked at most c times -/
def Fnt (Δ : Store) (n : Nat) (c : Int) : Prop := ∃ x y z : Int, Δ[n]? = some (.lst [.int x, .int y, .int z]) ∧ 0 ≤ x ∧ 0 ≤ y ∧ y < 2 ^ 150 ∧ 0 ≤ z ∧ z ≤ c
structure Off (n : Nat) (Δ Δ' : Store) : Prop where
  len : Δ'.length = Δ.length
  at_ : ∀ m, m ≠ n → Δ'[m]? = Δ[m]?
theorem Off.refl (n : Nat) (Δ : Store) : Off n Δ Δ := ⟨rfl, fun _ _ => rfl⟩
theorem Off.trans {n : Nat} {Δ Δ1 Δ2 : Store} (a : Off n Δ Δ1) (b : Off n Δ1 Δ2) : Off n Δ Δ2 := ⟨b.len.trans a.len, fun m h => (b.at_ m h).trans (a.at_ m h)⟩
theorem Off.set (n : Nat) (Δ : Store) (o : O) : Off n Δ (Δ.set n o) := ⟨by rw [List.length_set], fun m h => by rw [List.getElem?_set_ne (Ne.symm h)]⟩
theorem set_get {Δ : Store} {n : Nat} {o : O} (h : Δ[n]? = some o) (o' : O) : (Δ.set n o')[n]? = some o' := List.getElem?_set_self (List.getElem?_eq_some_iff.mp h).1
theorem Fnt.mono {Δ : Store} {n : Nat} {c c' : Int} (h : Fnt Δ n c) (hc : c ≤ c') : Fnt Δ n c' := by
  obtain ⟨x, y, z, e, h1, h2, h3, h4, h5⟩ := h
  exact ⟨x, y, z, e, h1, h2, h3, h4, by omega⟩
theorem Fnt.app {Δ : Store} {n : Nat} {c : Int} (h : Fnt Δ n c) (r : Store) : Fnt (Δ ++ r) n c := by
  obtain ⟨x, y, z, e, h1⟩ := h
  exact ⟨x, y, z, by rw [List.getElem?_append_left (List.getElem?_eq_some_iff.mp e).1]; exact e, h1⟩
theorem Fnt.lt {Δ : Store} {n : Nat} {c : Int} (h : Fnt Δ n c) : n < Δ.length := by
  obtain ⟨x, y, z, e, h1⟩ := h
  exact (List.getElem?_eq_some_iff.mp e).1
theorem pow3 {i : Int} (h : i.natAbs < 2 ^ 200) : CPowW i 3 := by
  have q := PySem.Flt.log2_lt_of (show 0 < 200 by decide) h
  refine ⟨by decide, ?_⟩
  omega
theorem pow_ok {a b : Int} (h1 : 0 ≤ b) (h2 : b ≤ 1000000) (h3 : a.natAbs < 2 ^ 64) : CPow a b := ⟨h1, h2, h3⟩
theorem natAbs_lt {i : Int} {n : Nat} (h0 : 0 ≤ i) (h : i < (2 : Int) ^ n) : i.natAbs < 2 ^ n := by
  have : ((2 ^ n : Nat) : Int) = (2 : Int) ^ n := by simp
  omega
theorem sm {i : Int} (h0 : 0 ≤ i) (h : i ≤ 10 ^ 100) : i.natAbs < 2 ^ 8000 := Nat.lt_of_lt_of_le (natAbs_lt (n := 340) h0 (Int.lt_of_le_of_lt h (by decide))) (Nat.pow_le_pow_right (by decide) (by decide))
theorem divk {i : Int} {j : Int} (h0 : 0 < j) (h1 : j < 2 ^ 400) : CDivW i j := wide_div (b := 8000) h0 (Nat.lt_of_lt_of_le (natAbs_lt (n := 400) (by omega) h1) (Nat.pow_le_pow_right (by decide) (by decide))) (by decide) (by decide)
section
variable {K : PySem.W.Frag} {C : CI}
theorem sip_ok {n : Nat} {many c : Int} {Δ : Store} {P : D → Store → Prop} (hb : Fnt Δ n c) (hc : c ≤ 10 ^ 20) (h1 : 1 ≤ many) (h2 : many.natAbs < 2 ^ 8000)
    (h : ∀ k Δ', 0 ≤ k → k < many → Fnt Δ' n (c + 1) → Off n Δ Δ' → P (.int k) Δ') : W__law_pluck K C [.cell n, .int many] Δ P := by
  obtain ⟨x, y, z, e, hx, hy0, hy1, hz0, hz1⟩ := hb
  have es := set_get e
  have es2 : ∀ o o', ((Δ.set n o).set n o')[n]? = some o' := fun o o' => set_get (es o) o'
  have dv : CDivW x many := wide_div (b := 8000) (by omega) h2 (by decide) (by decide)
  unfold W__law_pluck z__law_pluck
  walk_at "zz"
  simp only [e, es, List.length_cons, List.length_nil, Nat.reduceAdd, ix2_3, ix0_3, at0, at1, at2, Option.some.injEq, exists_eq_left', List.set_cons_zero, List.set_cons_succ, O.lst.injEq, exists_eq_left, D.int.injEq, D.cell.injEq]
  refine ⟨fun hpos => ⟨by omega, dv, ?_⟩, fun hpos => ?_⟩
  · exact h _ _ (Int.emod_nonneg _ (by omega)) (Int.emod_lt_of_pos _ (by omega)) ⟨x / many, y, z, by rw [es], Int.ediv_nonneg hx (by omega), hy0, hy1, hz0, by omega⟩ (Off.set _ _ _)
  · have e43 : (10 : Int) ^ Int.toNat 40 = 10 ^ 40 := rfl
    have e41 : (10 : Int) ^ Int.toNat 43 = 10 ^ 43 := rfl
    rw [e43, e41]
    have b1 : (y + 15485863 * (z + 1)).natAbs < 2 ^ 200 := natAbs_lt (by omega) (by omega)
    generalize (y + 15485863 * (z + 1)) ^ Int.toNat 3 = p1
    have m1 : 0 ≤ p1 % (10 ^ 40 + 121) ∧ p1 % (10 ^ 40 + 121) < 10 ^ 40 + 121 := ⟨Int.emod_nonneg _ (by decide), Int.emod_lt_of_pos _ (by decide)⟩
    generalize p1 % (10 ^ 40 + 121) = q1 at *
    have b2 : (q1 + 32452867 * (z + 1)).natAbs < 2 ^ 200 := natAbs_lt (by omega) (by omega)
    refine ⟨.l (by decide) (by decide), pow3 b1, pow_ok (by decide) (by decide) (by decide), by decide, .l (by decide) (by decide), pow3 b2, pow_ok (by decide) (by decide) (by decide), by decide, divk (by decide) (by decide), by omega, ?_⟩
    exact h _ _ (Int.emod_nonneg _ (by omega)) (Int.emod_lt_of_pos _ (by omega)) ⟨x, y, z + 1, by rw [es], hx, hy0, hy1, by omega, by omega⟩ (Off.set _ _ _)
theorem fount_ok {ns : List Int} {k : Int} {Δ : Store} {P : D → Store → Prop} (k0 : 0 ≤ k) (k1 : k ≤ 100) (h : ∀ Δ' o, Δ' = Δ ++ [o] → Fnt Δ' Δ.length 0 → P (.cell Δ.length) Δ') : W__law_crib K C [.scr ns, .int k] Δ P := by
  have fin : ∀ cell : Int, P (.cell Δ.length) (Δ ++ [.lst [.int (if cell - 10 ^ 18 > 0 then cell - 10 ^ 18 else 0), .int (cell % (10 ^ 37 + 43) * 113 + 50021 * k + 17), .int 0]]) := fun cell => by
    refine h _ _ rfl ⟨if cell - 10 ^ 18 > 0 then cell - 10 ^ 18 else 0, cell % (10 ^ 37 + 43) * 113 + 50021 * k + 17, 0, ?_, ?_, ?_, ?_, Int.le_refl _, Int.le_refl _⟩
    · rw [List.getElem?_append_right (Nat.le_refl _), Nat.sub_self]
      rfl
    · split <;> omega
    · have := Int.emod_nonneg cell (b := 10 ^ 37 + 43) (by decide)
      omega
    · have := Int.emod_lt_of_pos cell (b := 10 ^ 37 + 43) (by decide)
      omega
  unfold W__law_crib z__law_crib
  walk_at "zz"
  rw [List.length_map]
  refine ⟨fun hk => ?_, fun hk => ?_⟩
  · have hk' : k.toNat < ns.length := by omega
    have ea : atI (ns.map D.int) k = some (.int ns[k.toNat]) := by
      obtain ⟨d, h1, h2⟩ := atN (l := ns.map D.int) (i := k) k0 (by rw [List.length_map]; omega)
      rw [h2]
      rw [List.getElem?_map, List.getElem?_eq_getElem hk'] at h1
      exact h1.symm
    simp only [ea]
    walk_at "zz"
    exact ⟨pow_ok (by decide) (by decide) (by decide), pow_ok (by decide) (by decide) (by decide), by decide, .r (by decide) (by decide), .l (by decide) (by decide), fin _⟩
  · exact ⟨pow_ok (by decide) (by decide) (by decide), pow_ok (by decide) (by decide) (by decide), by decide, .r (by decide) (by decide), .l (by decide) (by decide), fin _⟩
end
end Bx

namespace Bx
open PySem PySem.Spec PyProof.Rows L2 Z
local macro_rules | `(tactic| walk_at "zz") => `(tactic| simp only [zSeq, zAsg, zRet, zRetN, zIfS, zNext, zDrop, zPar, zPar3, zAug, zDivmod, zIndex, zCatT, zSlT, zMeth, zVar, zC, zOp, zUn, zNeg, zI0, zI, zTest, zAnd, zOr, zNot, zAndV, zOrV, zNotV, zIf, zNil, zCons, zTup, zLst, zLstC, zgName, zgTup, zgCons, zgNil, zgSub, startZ, zCall, zCB, zChain, zIsN, zNotN, zNever,
  zAddA, zMulA, zRepeat, zCat, zIx, seqD, lstD, zMax2, zMin2, zAbs, zLen, zSum, zGcd, zInt, zYes, zBreak, zCont, zMin1, zMax1, zList, zListC, zLcC, zLc, ziR1, ziR2, ziList, ziTup, ziZip, ziEnum, wipeZ, zFor, zSl, zPart, zNoPart, zAppend, zLstR1, zLstR2, zCallBC, zCallBF,
  at0, at1, at2, at3, at4, ix2_3, ix0_3, isNon_int, isNon_non, Bool.not_true, Bool.not_false,
  List.map_cons, List.map_nil, List.length_cons, List.length_nil, List.replicate_succ, List.replicate_zero, List.append_nil, List.nil_append, List.cons_append, List.getElem?_cons_zero, List.getElem?_cons_succ, List.set_cons_zero, List.set_cons_succ,
  Option.some.injEq, D.int.injEq, D.bl.injEq, D.tup.injEq, D.lst.injEq, D.str.injEq, D.cell.injEq, O.lst.injEq, reduceCtorEq, exists_eq_left', exists_eq_left, false_and, and_false, true_and, and_true, exists_false, or_false, false_or, exists_and_left, exists_eq', exists_and_right, List.cons.injEq, and_assoc, dec_not, dec_yes, nd_t, nd_f, t_t, t_f, f_t, f_f, true_implies, false_implies, implies_true, and_self, Nat.reduceAdd, Nat.reduceLeDiff, Nat.reduceSub, Nat.reduceLT])
local macro_rules | `(tactic| walk_at "zy") => `(tactic| try simp only [Option.some.injEq, D.int.injEq, D.bl.injEq, D.tup.injEq, D.lst.injEq, D.str.injEq, D.cell.injEq, O.lst.injEq, reduceCtorEq, exists_eq_left', exists_eq_left, false_and, and_false, true_and, and_true, exists_false, or_false, false_or, exists_and_left, exists_eq', exists_and_right, List.cons.injEq, and_assoc, dec_not, dec_yes, nd_t, nd_f, t_t, t_f, f_t, f_f, true_implies, false_implies, implies_true, and_self])
/-! ### lists of isD -/
def isD (s : List Int) : List D := s.map D.int
/-- a list of isD: data, or a cell's content -/
def Ls (Δ : Store) (d : D) (s : List Int) : Prop := d = .lst (isD s) ∨ ∃ n, d = .cell n ∧ Δ[n]? = some (.lst (isD s))
section
variable {K : PySem.W.Frag} {C : CI} {Δ Δ' : Store} {P : D → Store → Prop} {d : D} {s l : List Int}
theorem Ls.seq (h : Ls Δ d s) : seqD Δ d = some (isD s) := by
  rcases h with rfl | ⟨n, rfl, e⟩
  · rfl
  · unfold seqD; simp only [e]
theorem Ls.lst (h : Ls Δ d s) : lstD Δ d = some (isD s) := by
  rcases h with rfl | ⟨n, rfl, e⟩
  · rfl
  · unfold lstD; simp only [e]
theorem Ls.thaw (h : Ls Δ d s) : Z.thaw Δ d = .lst (isD s) := by
  rcases h with rfl | ⟨n, rfl, e⟩
  · rfl
  · unfold Z.thaw; simp only [e]
theorem rdk_ints {k : Nat} : (isD s).map (Z.rdk Δ k) = isD s := by
  unfold isD
  rw [List.map_map]
  congr 1
  funext i
  cases k <;> rfl
theorem Ls.rdk (h : Ls Δ d s) {k : Nat} : Z.rdk Δ (k + 1) d = .lst (isD s) := by
  rcases h with rfl | ⟨n, rfl, e⟩
  · show D.lst _ = _; rw [rdk_ints]
  · unfold Z.rdk; simp only [e]; rw [rdk_ints]
theorem Ls.ty (h : Ls Δ d s) : tyD C Δ d = some (.type "list") := by
  rcases h with rfl | ⟨n, rfl, e⟩
  · rfl
  · unfold tyD; simp only [e]
theorem Ls.app (h : Ls Δ d s) (r : Store) : Ls (Δ ++ r) d s := by
  rcases h with h | ⟨n, h, e⟩
  · exact .inl h
  · exact .inr ⟨n, h, by rw [List.getElem?_append_left (List.getElem?_eq_some_iff.mp e).1]; exact e⟩
theorem Ls.off {m : Nat} (h : Ls Δ d s) (o : Off m Δ Δ') (hn : d ≠ .cell m) : Ls Δ' d s := by
  rcases h with h | ⟨n, rfl, e⟩
  · exact .inl h
  · exact .inr ⟨n, rfl, by rw [o.at_ n fun q => hn (by rw [q])]; exact e⟩
theorem Ls.last : Ls (Δ ++ [.lst (isD s)]) (.cell Δ.length) s := .inr ⟨_, rfl, by rw [List.getElem?_append_right (Nat.le_refl _), Nat.sub_self]; rfl⟩
theorem below_ints : ∀ s : List Int, Z.belowL 0 (isD s) = true
  | [] => rfl
  | i :: s => by
    show (true && Z.belowL 0 (isD s)) = true
    rw [below_ints s]
    rfl
theorem bare_ints : ∀ s : List Int, bareTs (isD s) = true
  | [] => rfl
  | i :: s => by
    show (true && bareTs (isD s)) = true
    rw [bare_ints s]
    rfl
theorem isD_len : (isD s).length = s.length := List.length_map _
theorem ints_get {i : Nat} {x : Int} (h : s[i]? = some x) : (isD s)[i]? = some (.int x) := by unfold isD; rw [List.getElem?_map, h] <;> rfl
theorem atI_nat {α : Type} {xs : List α} {i : Nat} {x : α} (h : xs[i]? = some x) : atI xs (i : Int) = some x := by
  unfold atI ixN
  have := (List.getElem?_eq_some_iff.mp h).1
  rw [if_pos (by omega), if_pos (by omega), Int.toNat_natCast]
  exact h
theorem atI_ints {i : Nat} (h : i < s.length) : atI (isD s) (i : Int) = some (.int (s.getD i 0)) := atI_nat (ints_get (by rw [List.getElem?_eq_getElem h, List.getD_eq_getElem?_getD, List.getElem?_eq_getElem h] <;> rfl))
theorem ixN_nat {n i : Nat} (h : i < n) : ixN n (i : Int) = some i := by
  unfold ixN
  rw [if_pos (by omega), if_pos (by omega), Int.toNat_natCast]
/-! ### types -/
theorem isi_ty {x : D} {a b : String} {r : Bool} (h1 : tyD C Δ x = some (.type a)) (h : kitB a b = some r) (p : P (.bl r) Δ) : zIsi K C [x, .ty b] Δ P :=
  ⟨x, _, _, _, r, rfl, h1, rfl, (fun _ q => nomatch q), kit_ty h, p⟩
theorem isi_ty2 {x : D} {a b c : String} {r1 r2 r : Bool} (h1 : tyD C Δ x = some (.type a)) (h : kitB a b = some r1) (h' : kitB a c = some r2) (hr : (r1 || r2) = r) (p : P (.bl r) Δ) : zIsiT K C [x, .tup [.ty b, .ty c]] Δ P := by
  subst hr
  refine ⟨x, _, _, [.type b, .type c], _, rfl, h1, .cons rfl (.cons rfl .nil), (fun _ q => nomatch q), ?_, p⟩
  cases r1 with
  | true => exact kitAny_cons (kit_ty h) (fun q => nomatch q) fun _ => rfl
  | false => exact kitAny_cons (kit_ty h) (fun _ => kitAny_cons (kit_ty h') (fun q => by rw [q]; rfl) fun q => by rw [q]; rfl) fun q => nomatch q
theorem is_int_ok {i : Int} (p : P (.bl true) Δ) : W_is_int K C [.int i] Δ P := by
  unfold W_is_int z_is_int
  walk_at "zz"
  refine isi_ty rfl (r := true) (by decide +kernel) ?_
  walk_at "zz"
  refine isi_ty rfl (r := false) (by decide +kernel) ?_
  walk_at "zz"
  exact p
/-! ### rows -/
structure Rw (s l : List Int) : Prop where
  len : s.length = l.length
  two : 2 ≤ s.length
  forty : s.length ≤ 40
  l0 : ∀ i ∈ l, 0 ≤ i
  s0 : ∀ i ∈ s, 0 ≤ i
  le : ∀ i, i < s.length → l.getD i 0 ≤ s.getD i 0
end
end Bx

namespace Bx
open PySem PySem.Spec PyProof.Rows L2 Z
local macro_rules | `(tactic| walk_at "zz") => `(tactic| simp only [zSeq, zAsg, zRet, zRetN, zIfS, zNext, zDrop, zPar, zPar3, zAug, zDivmod, zIndex, zCatT, zSlT, zMeth, zVar, zC, zOp, zUn, zNeg, zI0, zI, zTest, zAnd, zOr, zNot, zAndV, zOrV, zNotV, zIf, zNil, zCons, zTup, zLst, zLstC, zgName, zgTup, zgCons, zgNil, zgSub, startZ, zCall, zCB, zChain, zIsN, zNotN, zNever,
  zAddA, zMulA, zRepeat, zCat, zIx, seqD, lstD, zMax2, zMin2, zAbs, zLen, zSum, zGcd, zInt, zYes, zBreak, zCont, zMin1, zMax1, zList, zListC, zLcC, zLc, ziR1, ziR2, ziList, ziTup, ziZip, ziEnum, wipeZ, zFor, zSl, zPart, zNoPart, zAppend, zLstR1, zLstR2, zCallBC, zCallBF,
  at0, at1, at2, at3, at4, ix2_3, ix0_3, isNon_int, isNon_non, Bool.not_true, Bool.not_false,
  List.map_cons, List.map_nil, List.length_cons, List.length_nil, List.replicate_succ, List.replicate_zero, List.append_nil, List.nil_append, List.cons_append, List.getElem?_cons_zero, List.getElem?_cons_succ, List.set_cons_zero, List.set_cons_succ,
  Option.some.injEq, D.int.injEq, D.bl.injEq, D.tup.injEq, D.lst.injEq, D.str.injEq, D.cell.injEq, O.lst.injEq, reduceCtorEq, exists_eq_left', exists_eq_left, false_and, and_false, true_and, and_true, exists_false, or_false, false_or, exists_and_left, exists_eq', exists_and_right, List.cons.injEq, and_assoc, dec_not, dec_yes, nd_t, nd_f, t_t, t_f, f_t, f_f, true_implies, false_implies, implies_true, and_self, Nat.reduceAdd, Nat.reduceLeDiff, Nat.reduceSub, Nat.reduceLT])
local macro_rules | `(tactic| walk_at "zy") => `(tactic| try simp only [Option.some.injEq, D.int.injEq, D.bl.injEq, D.tup.injEq, D.lst.injEq, D.str.injEq, D.cell.injEq, O.lst.injEq, reduceCtorEq, exists_eq_left', exists_eq_left, false_and, and_false, true_and, and_true, exists_false, or_false, false_or, exists_and_left, exists_eq', exists_and_right, List.cons.injEq, and_assoc, dec_not, dec_yes, nd_t, nd_f, t_t, t_f, f_t, f_f, true_implies, false_implies, implies_true, and_self])
/-! ### what the program reckons, over lists of ints -/
def frs (s l : List Int) : List Int := (s.zip l).map fun q => q.1 - q.2
def pre (f : List Int) (j : Nat) : Int := (f.take j).sum
def hts (f : List Int) : List Int := (List.range (f.length - 1)).map fun i => pre f (i + 1)
def lim (v a b : Int) : Int := if v < a then a else if b < v then b else v
def tkn (h : List Int) (k : Nat) (x : Int) : List Int :=
  if h.getD k 0 < x then h.take k ++ (h.drop k).map fun o => if x > o then x else o
  else ((h.take (k + 1)).map fun o => if x < o then x else o) ++ h.drop (k + 1)
def swt (h l : List Int) (total : Int) : List Int := l.zipIdx.map fun q => q.1 + ([0] ++ h ++ [total - l.sum]).getD (q.2 + 1) 0 - ([0] ++ h ++ [total - l.sum]).getD q.2 0
section
variable {K : PySem.W.Frag} {C : CI} {Δ Δ' : Store} {P : D → Store → Prop} {d : D} {s l f : List Int}
theorem frs_len (e : s.length = l.length) : (frs s l).length = s.length := by unfold frs; rw [List.length_map, List.length_zip, ← e, Nat.min_self]
theorem frs_get (e : s.length = l.length) {i : Nat} (h : i < s.length) : (frs s l).getD i 0 = s.getD i 0 - l.getD i 0 := by
  unfold frs
  rw [List.getD_eq_getElem?_getD, List.getD_eq_getElem?_getD, List.getD_eq_getElem?_getD, List.getElem?_map, List.getElem?_eq_getElem h, List.getElem?_eq_getElem (show i < l.length by omega), List.getElem?_zip_eq_some.mpr (show s[i]? = some (s[i], l[i]).1 ∧ l[i]? = some (s[i], l[i]).2 from ⟨List.getElem?_eq_getElem h, List.getElem?_eq_getElem _⟩)]
  rfl
theorem zip_isD : ((isD s).zip (isD l)).map (fun q => D.tup [q.1, q.2]) = (s.zip l).map fun q => D.tup [.int q.1, .int q.2] := by
  unfold isD
  rw [List.zip_map, List.map_map]
  rfl
theorem cut_to {k : Nat} : Z.cutD (isD f) none (some (k : Int)) = isD (f.take k) := by
  unfold Z.cutD isD
  rw [HT.sIx_none, HT.sIx_nat, List.drop_zero, Nat.sub_zero, List.map_take]
  rw [← List.take_eq_take_min]
theorem cut_from {k : Nat} : Z.cutD (isD f) (some (k : Int)) none = isD (f.drop k) := by
  unfold Z.cutD isD
  rw [HT.sIx_none, HT.sIx_nat, List.map_drop]
  by_cases h : k ≤ (f.map D.int).length
  · rw [Nat.min_eq_left h, List.take_of_length_le]
    rw [List.length_drop]
    omega
  · rw [Nat.min_eq_right (by omega), List.drop_of_length_le (Nat.le_refl _), List.drop_of_length_le (show (f.map D.int).length ≤ k by omega), List.take_nil]
theorem limited_ok {v a b : Int} (p : P (.int (lim v a b)) Δ) : W_limited K C [.int v, .int a, .int b] Δ P := by
  unfold W_limited z_limited
  walk_at "zz"
  unfold lim at p
  refine ⟨fun h => ?_, fun h => ⟨fun h2 => ?_, fun h2 => ?_⟩⟩
  · rw [if_pos h] at p; exact p
  · rw [if_neg h, if_pos h2] at p; exact p
  · rw [if_neg h, if_neg h2] at p; exact p
theorem enum_isD : Z.enumD (isD l) = l.zipIdx.map fun q => D.tup [.int (q.2 : Nat), .int q.1] := by
  unfold Z.enumD isD
  rw [List.zipIdx_map, List.map_map]
  rfl
end
end Bx

namespace Bx
open PySem PySem.Spec PyProof.Rows L2 Z
local macro_rules | `(tactic| walk_at "zz") => `(tactic| simp only [zSeq, zAsg, zRet, zRetN, zIfS, zNext, zDrop, zPar, zPar3, zAug, zDivmod, zIndex, zCatT, zSlT, zMeth, zVar, zC, zOp, zUn, zNeg, zI0, zI, zTest, zAnd, zOr, zNot, zAndV, zOrV, zNotV, zIf, zNil, zCons, zTup, zLst, zLstC, zgName, zgTup, zgCons, zgNil, zgSub, startZ, zCall, zCB, zChain, zIsN, zNotN, zNever,
  zAddA, zMulA, zRepeat, zCat, zIx, seqD, lstD, zMax2, zMin2, zAbs, zLen, zSum, zGcd, zInt, zYes, zBreak, zCont, zMin1, zMax1, zList, zListC, zLcC, zLc, ziR1, ziR2, ziList, ziTup, ziZip, ziEnum, wipeZ, zFor, zSl, zPart, zNoPart, zAppend, zLstR1, zLstR2, zCallBC, zCallBF,
  at0, at1, at2, at3, at4, ix2_3, ix0_3, isNon_int, isNon_non, Bool.not_true, Bool.not_false,
  List.map_cons, List.map_nil, List.length_cons, List.length_nil, List.replicate_succ, List.replicate_zero, List.append_nil, List.nil_append, List.cons_append, List.getElem?_cons_zero, List.getElem?_cons_succ, List.set_cons_zero, List.set_cons_succ,
  Option.some.injEq, D.int.injEq, D.bl.injEq, D.tup.injEq, D.lst.injEq, D.str.injEq, D.cell.injEq, O.lst.injEq, reduceCtorEq, exists_eq_left', exists_eq_left, false_and, and_false, true_and, and_true, exists_false, or_false, false_or, exists_and_left, exists_eq', exists_and_right, List.cons.injEq, and_assoc, dec_not, dec_yes, nd_t, nd_f, t_t, t_f, f_t, f_f, true_implies, false_implies, implies_true, and_self, Nat.reduceAdd, Nat.reduceLeDiff, Nat.reduceSub, Nat.reduceLT])
local macro_rules | `(tactic| walk_at "zy") => `(tactic| try simp only [Option.some.injEq, D.int.injEq, D.bl.injEq, D.tup.injEq, D.lst.injEq, D.str.injEq, D.cell.injEq, O.lst.injEq, reduceCtorEq, exists_eq_left', exists_eq_left, false_and, and_false, true_and, and_true, exists_false, or_false, false_or, exists_and_left, exists_eq', exists_and_right, List.cons.injEq, and_assoc, dec_not, dec_yes, nd_t, nd_f, t_t, t_f, f_t, f_f, true_implies, false_implies, implies_true, and_self])
/-! ### lists by functions of the place -/
def fl (n : Nat) (g : Nat → Int) : List Int := (List.range n).map g
theorem fl_len {n : Nat} {g : Nat → Int} : (fl n g).length = n := by unfold fl; rw [List.length_map, List.length_range]
theorem fl_get? {n : Nat} {g : Nat → Int} {i : Nat} (h : i < n) : (fl n g)[i]? = some (g i) := by unfold fl; rw [List.getElem?_map, List.getElem?_range h] <;> rfl
theorem fl_get {n : Nat} {g : Nat → Int} {i : Nat} (h : i < n) : (fl n g).getD i 0 = g i := by rw [List.getD_eq_getElem?_getD, fl_get? h]; rfl
theorem fl_of {s : List Int} : s = fl s.length fun i => s.getD i 0 := by
  apply List.ext_getElem?
  intro i
  by_cases h : i < s.length
  · rw [fl_get? h, List.getD_eq_getElem?_getD, List.getElem?_eq_getElem h]; rfl
  · rw [List.getElem?_eq_none (by omega), List.getElem?_eq_none (by rw [fl_len]; omega)]
theorem fl_congr {n : Nat} {g g' : Nat → Int} (h : ∀ i, i < n → g i = g' i) : fl n g = fl n g' := by
  unfold fl
  exact List.map_congr_left fun i hi => h i (List.mem_range.mp hi)
theorem fl_set {n j : Nat} {g : Nat → Int} {x : Int} : (fl n g).set j x = fl n fun i => if i = j then x else g i := by
  apply List.ext_getElem?
  intro i
  by_cases h : i < n
  · rw [fl_get? h]
    by_cases e : i = j
    · subst e
      rw [List.getElem?_set_self (by rw [fl_len]; exact h), if_pos rfl]
    · rw [List.getElem?_set_ne (Ne.symm e), fl_get? h, if_neg e]
  · rw [List.getElem?_eq_none (by rw [List.length_set, fl_len]; omega), List.getElem?_eq_none (by rw [fl_len]; omega)]
theorem isD_set {s : List Int} {j : Nat} {x : Int} : (isD s).set j (.int x) = isD (s.set j x) := by unfold isD; rw [List.map_set]
/-! ### heights -/
theorem pre_0 {f : List Int} : pre f 0 = 0 := rfl
theorem pre_all {f : List Int} : pre f f.length = f.sum := by unfold pre; rw [List.take_of_length_le (Nat.le_refl _)]
theorem pre_succ {f : List Int} {j : Nat} (h : j < f.length) : pre f (j + 1) = pre f j + f.getD j 0 := by
  unfold pre
  rw [List.take_add_one, List.getElem?_eq_getElem h, List.sum_append, List.getD_eq_getElem?_getD, List.getElem?_eq_getElem h]
  simp
theorem hts_len {f : List Int} : (hts f).length = f.length - 1 := by unfold hts; rw [List.length_map, List.length_range]
theorem hts_get {f : List Int} {i : Nat} (h : i + 1 < f.length) : (hts f).getD i 0 = pre f (i + 1) := by
  have := fl_get (n := f.length - 1) (g := fun i => pre f (i + 1)) (i := i) (by omega)
  exact this
theorem sum_frs : ∀ {s l : List Int}, s.length = l.length → (frs s l).sum = s.sum - l.sum
  | [], [], _ => rfl
  | x :: s, y :: l, e => by
    have ih := sum_frs (s := s) (l := l) (by simpa using e)
    unfold frs at ih ⊢
    rw [List.zip_cons_cons, List.map_cons, List.sum_cons, ih, List.sum_cons, List.sum_cons]
    simp only
    omega
  | [], _ :: _, e => by simp at e
  | _ :: _, [], e => by simp at e
/-- the heights of all dividers and both ends, behind a drag to the height x -/
def nwP (f : List Int) (k : Nat) (x : Int) (j : Nat) : Int :=
  if pre f (k + 1) < x then (if j ≤ k then pre f j else if pre f j < x then x else pre f j) else (if j ≤ k + 1 then (if x < pre f j then x else pre f j) else pre f j)
theorem getD_app {a b : List Int} {i : Nat} : (a ++ b).getD i 0 = if i < a.length then a.getD i 0 else b.getD (i - a.length) 0 := by
  rw [List.getD_eq_getElem?_getD, List.getD_eq_getElem?_getD, List.getD_eq_getElem?_getD, List.getElem?_append]
  split <;> rfl
theorem getD_take {a : List Int} {i k : Nat} (h : i < k) : (a.take k).getD i 0 = a.getD i 0 := by
  rw [List.getD_eq_getElem?_getD, List.getD_eq_getElem?_getD, List.getElem?_take, if_pos h]
theorem getD_drop {a : List Int} {i k : Nat} : (a.drop k).getD i 0 = a.getD (k + i) 0 := by
  rw [List.getD_eq_getElem?_getD, List.getD_eq_getElem?_getD, List.getElem?_drop]
theorem getD_map {a : List Int} {g : Int → Int} {i : Nat} (h : i < a.length) : (a.map g).getD i 0 = g (a.getD i 0) := by
  rw [List.getD_eq_getElem?_getD, List.getD_eq_getElem?_getD, List.getElem?_map, List.getElem?_eq_getElem h]
  rfl
theorem tkn_len {h : List Int} {k : Nat} {x : Int} : (tkn h k x).length = h.length := by
  unfold tkn
  split
  · simp; omega
  · simp; omega
theorem tkn_get {h : List Int} {k i : Nat} {x : Int} (hk : k < h.length) (hi : i < h.length) : (tkn h k x).getD i 0 =
    if h.getD k 0 < x then (if i < k then h.getD i 0 else if x > h.getD i 0 then x else h.getD i 0) else (if i < k + 1 then (if x < h.getD i 0 then x else h.getD i 0) else h.getD i 0) := by
  unfold tkn
  split
  · rw [getD_app, List.length_take, Nat.min_eq_left (by omega)]
    split
    · rw [getD_take (by omega)]
    · rw [getD_map (by rw [List.length_drop]; omega), getD_drop, show k + (i - k) = i by omega]
  · rw [getD_app, List.length_map, List.length_take, Nat.min_eq_left (by omega)]
    split
    · rw [getD_map (by rw [List.length_take]; omega), getD_take (by omega)]
    · rw [getD_drop, show k + 1 + (i - (k + 1)) = i by omega]
theorem pre_mono {f : List Int} (h0 : ∀ i, i < f.length → 0 ≤ f.getD i 0) : ∀ {j k : Nat}, j ≤ k → k ≤ f.length → pre f j ≤ pre f k := by
  intro j k hjk
  induction hjk with
  | refl => intro _; exact Int.le_refl _
  | @step m hm ih =>
    intro hk
    have := ih (by omega)
    have e := pre_succ (f := f) (j := m) (by omega)
    have := h0 m (by omega)
    show pre f j ≤ pre f (m + 1)
    omega
theorem ends_get {f : List Int} {k j : Nat} {x : Int} (hk : k + 1 < f.length) (hj : j ≤ f.length) (x0 : 0 ≤ x) (x1 : x ≤ f.sum) : ([0] ++ tkn (hts f) k x ++ [f.sum]).getD j 0 = nwP f k x j := by
  have hl : (tkn (hts f) k x).length = f.length - 1 := by rw [tkn_len, hts_len]
  unfold nwP
  rw [getD_app, List.length_append, hl]
  simp only [List.length_cons, List.length_nil]
  by_cases h0 : j = 0
  · subst h0
    rw [if_pos (by omega)]
    have e : ([0] ++ tkn (hts f) k x).getD 0 0 = 0 := rfl
    rw [e, pre_0, if_pos (Nat.zero_le k), if_pos (Nat.zero_le (k + 1)), if_neg (show ¬ x < 0 by omega), ite_self]
  · by_cases hn : j = f.length
    · subst hn
      rw [if_neg (by omega), pre_all, if_neg (show ¬ f.length ≤ k by omega), if_neg (show ¬ f.length ≤ k + 1 by omega)]
      rw [show f.length - (0 + 1 + (f.length - 1)) = 0 by omega]
      show f.sum = _
      split
      · rw [if_neg (by omega)]
      · rfl
    · rw [if_pos (by omega), getD_app, if_neg (by simp; omega)]
      simp only [List.length_cons, List.length_nil]
      rw [tkn_get (by rw [hts_len]; omega) (by rw [hts_len]; omega), hts_get (by omega), hts_get (by omega), show j - (0 + 1) + 1 = j by omega]
      split
      · by_cases q : j ≤ k
        · rw [if_pos q, if_pos (by omega)]
        · rw [if_neg q, if_neg (by omega)]
      · by_cases q : j ≤ k + 1
        · rw [if_pos q, if_pos (by omega)]
        · rw [if_neg q, if_neg (by omega)]
/-- the sizes behind a drag -/
def drg (s l : List Int) (k : Nat) (num : Int) : List Int :=
  fl s.length fun i => l.getD i 0 + nwP (frs s l) k (lim (pre (frs s l) (k + 1) + num) 0 (frs s l).sum) (i + 1) - nwP (frs s l) k (lim (pre (frs s l) (k + 1) + num) 0 (frs s l).sum) i
theorem frs_nn {s l : List Int} (R : Rw s l) : ∀ i, i < (frs s l).length → 0 ≤ (frs s l).getD i 0 := fun i hi => by
  rw [frs_len R.len] at hi
  rw [frs_get R.len hi]
  have := R.le i hi
  omega
theorem sum_nn {s l : List Int} (R : Rw s l) : 0 ≤ (frs s l).sum := by
  rw [← pre_all]
  have := pre_mono (frs_nn R) (Nat.zero_le _) (Nat.le_refl _)
  rw [pre_0] at this
  exact this
theorem lim_in {v b : Int} (h : 0 ≤ b) : 0 ≤ lim v 0 b ∧ lim v 0 b ≤ b := by
  unfold lim
  split
  · omega
  · split <;> omega
theorem swt_eq {s l : List Int} (R : Rw s l) {k : Nat} (hk : k + 1 < s.length) {num : Int} : swt (tkn (hts (frs s l)) k (lim (pre (frs s l) (k + 1) + num) 0 (frs s l).sum)) l s.sum = drg s l k num := by
  have hx := lim_in (v := pre (frs s l) (k + 1) + num) (sum_nn R)
  have fl' := frs_len R.len
  unfold swt drg
  rw [← sum_frs R.len]
  generalize lim (pre (frs s l) (k + 1) + num) 0 (frs s l).sum = x at *
  apply List.ext_getElem?
  intro i
  by_cases hi : i < s.length
  · have hi2 : i < l.length := by rw [← R.len]; exact hi
    rw [fl_get? hi, List.getElem?_map, List.getElem?_zipIdx, List.getElem?_eq_getElem hi2]
    show some _ = some _
    simp only [Nat.zero_add]
    rw [ends_get (by omega) (by omega) hx.1 hx.2, ends_get (by omega) (by omega) hx.1 hx.2, List.getD_eq_getElem?_getD (l := l), List.getElem?_eq_getElem hi2]
    rfl
  · rw [List.getElem?_eq_none (by rw [List.length_map, List.length_zipIdx, ← R.len]; omega), List.getElem?_eq_none (by rw [fl_len]; omega)]
end Bx

namespace Bx
open PySem PySem.Spec PyProof.Rows L2 Z
local macro_rules | `(tactic| walk_at "zz") => `(tactic| simp only [zSeq, zAsg, zRet, zRetN, zIfS, zNext, zDrop, zPar, zPar3, zAug, zDivmod, zIndex, zCatT, zSlT, zMeth, zVar, zC, zOp, zUn, zNeg, zI0, zI, zTest, zAnd, zOr, zNot, zAndV, zOrV, zNotV, zIf, zNil, zCons, zTup, zLst, zLstC, zgName, zgTup, zgCons, zgNil, zgSub, startZ, zCall, zCB, zChain, zIsN, zNotN, zNever,
  zAddA, zMulA, zRepeat, zCat, zIx, seqD, lstD, zMax2, zMin2, zAbs, zLen, zSum, zGcd, zInt, zYes, zBreak, zCont, zMin1, zMax1, zList, zListC, zLcC, zLc, ziR1, ziR2, ziList, ziTup, ziZip, ziEnum, wipeZ, zFor, zSl, zPart, zNoPart, zAppend, zLstR1, zLstR2, zCallBC, zCallBF,
  at0, at1, at2, at3, at4, ix2_3, ix0_3, isNon_int, isNon_non, Bool.not_true, Bool.not_false,
  List.map_cons, List.map_nil, List.length_cons, List.length_nil, List.replicate_succ, List.replicate_zero, List.append_nil, List.nil_append, List.cons_append, List.getElem?_cons_zero, List.getElem?_cons_succ, List.set_cons_zero, List.set_cons_succ,
  Option.some.injEq, D.int.injEq, D.bl.injEq, D.tup.injEq, D.lst.injEq, D.str.injEq, D.cell.injEq, O.lst.injEq, reduceCtorEq, exists_eq_left', exists_eq_left, false_and, and_false, true_and, and_true, exists_false, or_false, false_or, exists_and_left, exists_eq', exists_and_right, List.cons.injEq, and_assoc, dec_not, dec_yes, nd_t, nd_f, t_t, t_f, f_t, f_f, true_implies, false_implies, implies_true, and_self, Nat.reduceAdd, Nat.reduceLeDiff, Nat.reduceSub, Nat.reduceLT])
local macro_rules | `(tactic| walk_at "zy") => `(tactic| try simp only [Option.some.injEq, D.int.injEq, D.bl.injEq, D.tup.injEq, D.lst.injEq, D.str.injEq, D.cell.injEq, O.lst.injEq, reduceCtorEq, exists_eq_left', exists_eq_left, false_and, and_false, true_and, and_true, exists_false, or_false, false_or, exists_and_left, exists_eq', exists_and_right, List.cons.injEq, and_assoc, dec_not, dec_yes, nd_t, nd_f, t_t, t_f, f_t, f_f, true_implies, false_implies, implies_true, and_self])
section
variable {K : PySem.W.Frag} {C : CI} {Δ Δ' : Store} {P : D → Store → Prop} {d d2 : D} {s l f : List Int}
theorem ne_ints {x y : D} {a b : Int} (h1 : x = .int a) (h2 : y = .int b) (p : P (.bl (!(a == b))) Δ) : zNeD x y Δ P := by
  subst h1 h2
  refine ⟨rfl, rfl, ?_⟩
  exact p
theorem eq_ints {a b : Int} (p : P (.bl (a == b)) Δ) : zEqD (.int a) (.int b) Δ P := ⟨rfl, rfl, p⟩
theorem min_in {m : Int} (R : Rw s l) (h : m ∈ frs s l) : 0 ≤ m := by
  obtain ⟨i, hi, e⟩ := List.getElem_of_mem h
  have := frs_nn R i hi
  rw [List.getD_eq_getElem?_getD, List.getElem?_eq_getElem hi] at this
  rw [← e]
  exact this
theorem frs_ne (R : Rw s l) : frs s l ≠ [] := fun q => by
  have := frs_len R.len
  rw [q] at this
  have := R.two
  simp at *
  omega
theorem check_index_ok {k many : Int} (h0 : 0 ≤ k) (h1 : k < many) (p : P .non Δ) : W_check_index K C [.int k, .int many] Δ P := by
  unfold W_check_index z_check_index
  try walk_at "zz"
  refine is_int_ok ?_
  try walk_at "zz"
  exact ⟨fun _ => ⟨fun q => by omega, fun _ => p⟩, fun q => by omega⟩
end
end Bx

namespace Bx
open PySem PySem.Spec PyProof.Rows L2 Z
local macro_rules | `(tactic| walk_at "zz") => `(tactic| simp only [zSeq, zAsg, zRet, zRetN, zIfS, zNext, zDrop, zPar, zPar3, zAug, zDivmod, zIndex, zCatT, zSlT, zMeth, zVar, zC, zOp, zUn, zNeg, zI0, zI, zTest, zAnd, zOr, zNot, zAndV, zOrV, zNotV, zIf, zNil, zCons, zTup, zLst, zLstC, zgName, zgTup, zgCons, zgNil, zgSub, startZ, zCall, zCB, zChain, zIsN, zNotN, zNever,
  zAddA, zMulA, zRepeat, zCat, zIx, seqD, lstD, zMax2, zMin2, zAbs, zLen, zSum, zGcd, zInt, zYes, zBreak, zCont, zMin1, zMax1, zList, zListC, zLcC, zLc, ziR1, ziR2, ziList, ziTup, ziZip, ziEnum, wipeZ, zFor, zSl, zPart, zNoPart, zAppend, zLstR1, zLstR2, zCallBC, zCallBF,
  at0, at1, at2, at3, at4, ix2_3, ix0_3, isNon_int, isNon_non, Bool.not_true, Bool.not_false,
  List.map_cons, List.map_nil, List.length_cons, List.length_nil, List.replicate_succ, List.replicate_zero, List.append_nil, List.nil_append, List.cons_append, List.getElem?_cons_zero, List.getElem?_cons_succ, List.set_cons_zero, List.set_cons_succ,
  Option.some.injEq, D.int.injEq, D.bl.injEq, D.tup.injEq, D.lst.injEq, D.str.injEq, D.cell.injEq, O.lst.injEq, reduceCtorEq, exists_eq_left', exists_eq_left, false_and, and_false, true_and, and_true, exists_false, or_false, false_or, exists_and_left, exists_eq', exists_and_right, List.cons.injEq, and_assoc, dec_not, dec_yes, nd_t, nd_f, t_t, t_f, f_t, f_f, true_implies, false_implies, implies_true, and_self, Nat.reduceAdd, Nat.reduceLeDiff, Nat.reduceSub, Nat.reduceLT])
local macro_rules | `(tactic| walk_at "zy") => `(tactic| try simp only [Option.some.injEq, D.int.injEq, D.bl.injEq, D.tup.injEq, D.lst.injEq, D.str.injEq, D.cell.injEq, O.lst.injEq, reduceCtorEq, exists_eq_left', exists_eq_left, false_and, and_false, true_and, and_true, exists_false, or_false, false_or, exists_and_left, exists_eq', exists_and_right, List.cons.injEq, and_assoc, dec_not, dec_yes, nd_t, nd_f, t_t, t_f, f_t, f_f, true_implies, false_implies, implies_true, and_self])
theorem seq_cut {t u : ZS} {Ze : ZEnds} {Γ : Z.Env} {Δ : Store} (h : ∀ rest : Z.Env → Store → Prop, rest = u Ze → t { Ze with nx := rest } Γ Δ) : zSeq t u Ze Γ Δ := h _ rfl
section
variable {K : PySem.W.Frag} {C : CI} {Δ Δ' : Store} {P : D → Store → Prop} {d d2 : D} {s l f : List Int}
theorem last_at {o : O} : (Δ ++ [o])[Δ.length]? = some o := by rw [List.getElem?_append_right (Nat.le_refl _), Nat.sub_self]; rfl
theorem set_last {o o' : O} : (Δ ++ [o]).set Δ.length o' = Δ ++ [o'] := by
  rw [List.set_append_right _ _ (Nat.le_refl _), Nat.sub_self]; rfl
/-- the list while the boxes behind k give -/
def upL (s l : List Int) (k : Nat) (A : Int) (j : Nat) : List Int := fl s.length fun i => if k < i ∧ i < j then l.getD i 0 + (if pre (frs s l) (i + 1) < A then A else pre (frs s l) (i + 1)) - (if pre (frs s l) i < A then A else pre (frs s l) i) else s.getD i 0
end
end Bx

namespace Bx
open PySem PySem.Spec PyProof.Rows L2 Z
local macro_rules | `(tactic| walk_at "zz") => `(tactic| simp only [zSeq, zAsg, zRet, zRetN, zIfS, zNext, zDrop, zPar, zPar3, zAug, zDivmod, zIndex, zCatT, zSlT, zMeth, zVar, zC, zOp, zUn, zNeg, zI0, zI, zTest, zAnd, zOr, zNot, zAndV, zOrV, zNotV, zIf, zNil, zCons, zTup, zLst, zLstC, zgName, zgTup, zgCons, zgNil, zgSub, startZ, zCall, zCB, zChain, zIsN, zNotN, zNever,
  zAddA, zMulA, zRepeat, zCat, zIx, seqD, lstD, zMax2, zMin2, zAbs, zLen, zSum, zGcd, zInt, zYes, zBreak, zCont, zMin1, zMax1, zList, zListC, zLcC, zLc, ziR1, ziR2, ziList, ziTup, ziZip, ziEnum, wipeZ, zFor, zSl, zPart, zNoPart, zAppend, zLstR1, zLstR2, zCallBC, zCallBF,
  at0, at1, at2, at3, at4, ix2_3, ix0_3, isNon_int, isNon_non, Bool.not_true, Bool.not_false,
  List.map_cons, List.map_nil, List.length_cons, List.length_nil, List.replicate_succ, List.replicate_zero, List.append_nil, List.nil_append, List.cons_append, List.getElem?_cons_zero, List.getElem?_cons_succ, List.set_cons_zero, List.set_cons_succ,
  Option.some.injEq, D.int.injEq, D.bl.injEq, D.tup.injEq, D.lst.injEq, D.str.injEq, D.cell.injEq, O.lst.injEq, reduceCtorEq, exists_eq_left', exists_eq_left, false_and, and_false, true_and, and_true, exists_false, or_false, false_or, exists_and_left, exists_eq', exists_and_right, List.cons.injEq, and_assoc, dec_not, dec_yes, nd_t, nd_f, t_t, t_f, f_t, f_f, true_implies, false_implies, implies_true, and_self, Nat.reduceAdd, Nat.reduceLeDiff, Nat.reduceSub, Nat.reduceLT])
local macro_rules | `(tactic| walk_at "zy") => `(tactic| try simp only [Option.some.injEq, D.int.injEq, D.bl.injEq, D.tup.injEq, D.lst.injEq, D.str.injEq, D.cell.injEq, O.lst.injEq, reduceCtorEq, exists_eq_left', exists_eq_left, false_and, and_false, true_and, and_true, exists_false, or_false, false_or, exists_and_left, exists_eq', exists_and_right, List.cons.injEq, and_assoc, dec_not, dec_yes, nd_t, nd_f, t_t, t_f, f_t, f_f, true_implies, false_implies, implies_true, and_self])
theorem pds_is : ∀ ns : List Int, pds (ns.map D.int) = ns.map PyData.int
  | [] => rfl
  | n :: ns => by
    show pd (.int n) :: pds (ns.map D.int) = _
    rw [pds_is ns]
    rfl
theorem canLay_is : ∀ ns : List Int, PyData.canLayAll0 (ns.map PyData.int) = true
  | [] => rfl
  | n :: ns => by
    show (true && PyData.canLayAll0 (ns.map PyData.int)) = true
    rw [canLay_is ns]
    rfl
theorem depth_is : ∀ ns : List Int, PyData.depthAll (ns.map PyData.int) ≤ 0
  | [] => Nat.zero_le _
  | n :: ns => Nat.max_le.mpr ⟨Nat.le_refl 0, depth_is ns⟩
theorem shp_ints (ns : List Int) : shp (.lst (ns.map D.int)) = true := by
  have h1 : plainD (.lst (ns.map D.int)) = true := plain_ints ns
  have h2 : PyData.canLay0 (pd (.lst (ns.map D.int))) = true := by
    show PyData.canLayAll0 (pds (ns.map D.int)) = true
    rw [pds_is]
    exact canLay_is ns
  have h3 : (pd (.lst (ns.map D.int))).depth ≤ 64 := by
    show PyData.depthAll (pds (ns.map D.int)) + 1 ≤ 64
    rw [pds_is]
    have := depth_is ns
    omega
  unfold shp SeqAt.shaped
  rw [h1, h2, decide_eq_true h3]
  rfl
section
variable {K : PySem.W.Frag} {C : CI} {Δ Δ' : Store} {P : D → Store → Prop} {d d2 : D} {s l f : List Int}
theorem eq_bl {a b : Bool} (p : P (.bl (a == b)) Δ) : zEqD (.bl a) (.bl b) Δ P := ⟨rfl, rfl, by cases a <;> cases b <;> exact p⟩
theorem ne_bl {a b : Bool} (p : P (.bl (!(a == b))) Δ) : zNeD (.bl a) (.bl b) Δ P := ⟨rfl, rfl, by cases a <;> cases b <;> exact p⟩
theorem range_nat {n : Nat} : rangeD 0 (n : Int) = (List.range n).map fun (i : Nat) => D.int (0 + (i : Int)) := by
  unfold rangeD
  rw [show ((n : Int) - 0).toNat = n by omega]
theorem eqD_same {x : D} (hs : shp x = true) : eqD x x = true := by
  unfold eqD
  rw [SeqAt.eqv_refl _ (SeqAt.canLay_of_shaped (Bool.and_eq_true_iff.mp hs).2)]
theorem ne_sameD {x y z : D} (h1 : Z.rdk Δ 3 x = z) (h2 : Z.rdk Δ 3 y = z) (hs : shp z = true) (p : P (.bl false) Δ) : zNeD x y Δ P := by
  refine ⟨by rw [h1]; exact hs, by rw [h2]; exact hs, ?_⟩
  rw [h1, h2, eqD_same hs]
  exact p
theorem eq_sameD {x y z : D} (h1 : Z.rdk Δ 3 x = z) (h2 : Z.rdk Δ 3 y = z) (hs : shp z = true) (p : P (.bl true) Δ) : zEqD x y Δ P := by
  refine ⟨by rw [h1]; exact hs, by rw [h2]; exact hs, ?_⟩
  rw [h1, h2, eqD_same hs]
  exact p
end
end Bx

namespace Bx
open PySem PySem.Spec PyProof.Rows L2 Z
local macro_rules | `(tactic| walk_at "zz") => `(tactic| simp only [zSeq, zAsg, zRet, zRetN, zIfS, zNext, zDrop, zPar, zPar3, zAug, zDivmod, zIndex, zCatT, zSlT, zMeth, zVar, zC, zOp, zUn, zNeg, zI0, zI, zTest, zAnd, zOr, zNot, zAndV, zOrV, zNotV, zIf, zNil, zCons, zTup, zLst, zLstC, zgName, zgTup, zgCons, zgNil, zgSub, startZ, zCall, zCB, zChain, zIsN, zNotN, zNever,
  zAddA, zMulA, zRepeat, zCat, zIx, seqD, lstD, zMax2, zMin2, zAbs, zLen, zSum, zGcd, zInt, zYes, zBreak, zCont, zMin1, zMax1, zList, zListC, zLcC, zLc, ziR1, ziR2, ziList, ziTup, ziZip, ziEnum, wipeZ, zFor, zSl, zPart, zNoPart, zAppend, zLstR1, zLstR2, zCallBC, zCallBF,
  at0, at1, at2, at3, at4, ix2_3, ix0_3, isNon_int, isNon_non, Bool.not_true, Bool.not_false,
  List.map_cons, List.map_nil, List.length_cons, List.length_nil, List.replicate_succ, List.replicate_zero, List.append_nil, List.nil_append, List.cons_append, List.getElem?_cons_zero, List.getElem?_cons_succ, List.set_cons_zero, List.set_cons_succ,
  Option.some.injEq, D.int.injEq, D.bl.injEq, D.tup.injEq, D.lst.injEq, D.str.injEq, D.cell.injEq, O.lst.injEq, reduceCtorEq, exists_eq_left', exists_eq_left, false_and, and_false, true_and, and_true, exists_false, or_false, false_or, exists_and_left, exists_eq', exists_and_right, List.cons.injEq, and_assoc, dec_not, dec_yes, nd_t, nd_f, t_t, t_f, f_t, f_f, true_implies, false_implies, implies_true, and_self, Nat.reduceAdd, Nat.reduceLeDiff, Nat.reduceSub, Nat.reduceLT])
local macro_rules | `(tactic| walk_at "zy") => `(tactic| try simp only [Option.some.injEq, D.int.injEq, D.bl.injEq, D.tup.injEq, D.lst.injEq, D.str.injEq, D.cell.injEq, O.lst.injEq, reduceCtorEq, exists_eq_left', exists_eq_left, false_and, and_false, true_and, and_true, exists_false, or_false, false_or, exists_and_left, exists_eq', exists_and_right, List.cons.injEq, and_assoc, dec_not, dec_yes, nd_t, nd_f, t_t, t_f, f_t, f_f, true_implies, false_implies, implies_true, and_self])
/-! ### what repr shows of lists, tuples and ints -/
theorem ok_app {x y : Str} (hx : PyData.strOk x = true) (hy : PyData.strOk y = true) : PyData.strOk (x ++ y) = true := by
  show (x.cps ++ y.cps).all _ = true
  rw [Array.all_append]
  exact Bool.and_eq_true_iff.mpr ⟨hx, hy⟩
theorem ok_of (s : String) : PyData.strOk (Str.ofString s) = true := by
  rw [Str.ofString_eq_toList]
  unfold PyData.strOk
  simp only [List.all_toArray, List.all_map, List.all_eq_true, Function.comp, decide_eq_true_eq]
  intro c _
  have := c.valid
  unfold UInt32.isValidChar Nat.isValidChar at this
  show c.val.toNat < 0x110000
  omega
theorem ok_text : ∀ (ts : List Str) (k : Nat) (acc : Str), PyData.strOk acc = true → (∀ t ∈ ts, PyData.strOk t = true) → PyData.strOk (textFrom k acc ts) = true
  | [], _, _, h, _ => h
  | t :: ts, k, acc, h, ht => by
    show PyData.strOk (textFrom (k + 1) (acc ++ (if k > 0 then ", " else "" : String) ++ t) ts) = true
    exact ok_text ts _ _ (ok_app (ok_app h (ok_of _)) (ht t List.mem_cons_self)) fun u hu => ht u (List.mem_cons_of_mem _ hu)
/-- shown in at most n letters, m deep -/
structure Tx1 (n m : Nat) (d : D) : Prop where
  pl : plainD d = true
  sh : (pd d).showable = true
  dp : (pd d).depth ≤ m
  sz : (pd d).shown.length ≤ n
  ok : PyData.strOk (pd d).shown = true
theorem Tx1.mono {n m n' m' : Nat} {d : D} (h : Tx1 n m d) (h1 : n ≤ n') (h2 : m ≤ m') : Tx1 n' m' d := ⟨h.pl, h.sh, Nat.le_trans h.dp h2, Nat.le_trans h.sz h1, h.ok⟩
theorem tx_int {i : Int} (h : i.natAbs < 2 ^ 500) : Tx1 501 0 (.int i) := by
  have lg : i.natAbs.log2 < 500 := by
    rcases Nat.eq_zero_or_pos i.natAbs with h0 | hp
    · rw [h0]; decide
    · exact (Nat.log2_lt (Nat.ne_of_gt hp)).mpr h
  refine ⟨rfl, decide_eq_true (by omega), Nat.le_refl _, ?_, ok_of _⟩
  show (Str.ofString (toString i)).length ≤ 501
  rw [PySem.ofString_length]
  exact int_text_length_le (by decide) lg
theorem tx_pair {a b : Int} (ha : a.natAbs < 2 ^ 500) (hb : b.natAbs < 2 ^ 500) : Tx1 1009 1 (.tup [.int a, .int b]) := by
  have h1 := tx_int ha
  have h2 := tx_int hb
  refine ⟨rfl, ?_, ?_, ?_, ?_⟩
  · show (PyData.showable (.int a) && (PyData.showable (.int b) && true)) = true
    have e1 : PyData.showable (.int a) = true := h1.sh
    have e2 : PyData.showable (.int b) = true := h2.sh
    rw [e1, e2]
    rfl
  · show max 0 (max 0 0) + 1 ≤ 1
    omega
  · show (tupleText [PyData.shown (.int a), PyData.shown (.int b)]).length ≤ 1009
    refine Nat.le_trans (tupleText_len_le _) ?_
    have e1 : (PyData.shown (.int a)).length ≤ 501 := h1.sz
    have e2 : (PyData.shown (.int b)).length ≤ 501 := h2.sz
    simp only [List.map_cons, List.map_nil, List.sum_cons, List.sum_nil, List.length_cons, List.length_nil]
    omega
  · show PyData.strOk (Str.ofString "(" ++ (PyData.shown (.int a) ++ Str.ofString ", " ++ PyData.shown (.int b)) ++ Str.ofString ")") = true
    exact ok_app (ok_app (ok_of _) (ok_app (ok_app h1.ok (ok_of _)) h2.ok)) (ok_of _)
theorem tx_all {n m : Nat} : ∀ {ds : List D}, (∀ d ∈ ds, Tx1 n m d) → plainDs ds = true ∧ PyData.showableAll (pds ds) = true ∧ PyData.depthAll (pds ds) ≤ m ∧ ((PyData.shownAll (pds ds)).map (·.length)).sum ≤ ds.length * n ∧ (PyData.shownAll (pds ds)).length = ds.length ∧ ∀ t ∈ PyData.shownAll (pds ds), PyData.strOk t = true
  | [], _ => ⟨rfl, rfl, Nat.zero_le _, Nat.zero_le _, rfl, fun _ h => nomatch h⟩
  | d :: ds, h => by
    have q := h d List.mem_cons_self
    obtain ⟨h1, h2, h3, h4, h5, h6⟩ := tx_all fun e he => h e (List.mem_cons_of_mem _ he)
    refine ⟨?_, ?_, ?_, ?_, ?_, fun t ht => ?_⟩
    · show (plainD d && plainDs ds) = true
      rw [q.pl, h1]; rfl
    · show (PyData.showable (pd d) && PyData.showableAll (pds ds)) = true
      rw [q.sh, h2]; rfl
    · exact Nat.max_le.mpr ⟨q.dp, h3⟩
    · show (PyData.shown (pd d)).length + ((PyData.shownAll (pds ds)).map (·.length)).sum ≤ (ds.length + 1) * n
      have := q.sz
      rw [Nat.succ_mul]
      omega
    · show (PyData.shownAll (pds ds)).length + 1 = ds.length + 1
      rw [h5]
    · rcases List.mem_cons.mp (show t ∈ PyData.shown (pd d) :: PyData.shownAll (pds ds) from ht) with rfl | ht
      · exact q.ok
      · exact h6 t ht
theorem tx_list {n m : Nat} {ds : List D} (h : ∀ d ∈ ds, Tx1 n m d) : Tx1 (ds.length * n + 2 * ds.length + 3) (m + 1) (.lst ds) := by
  obtain ⟨h1, h2, h3, h4, h5, h6⟩ := tx_all h
  refine ⟨h1, h2, ?_, ?_, ?_⟩
  · show PyData.depthAll (pds ds) + 1 ≤ m + 1
    omega
  · show (listText (PyData.shownAll (pds ds))).length ≤ _
    refine Nat.le_trans (listText_len_le _) ?_
    omega
  · show PyData.strOk (textFrom 0 "[" (PyData.shownAll (pds ds)) ++ Str.ofString "]") = true
    exact ok_app (ok_text _ _ _ (ok_of _) h6) (ok_of _)
theorem Tx1.show {n m : Nat} {d : D} (h : Tx1 n m d) (h1 : n ≤ 1000000) (h2 : m ≤ 60) : Showable d := ⟨h.pl, h.sh, Nat.le_trans h.dp h2, Nat.le_trans h.sz (by rw [sizeLine_eq]; omega)⟩
theorem shp_str {x : Str} (h : PyData.strOk x = true) : shp (.str x) = true := by
  show (true && (PyData.strOk x && decide _)) = true
  rw [h]
  rfl
end Bx

namespace Bx
open PySem PySem.Spec PyProof.Rows L2 Z
local macro_rules | `(tactic| walk_at "zz") => `(tactic| simp only [zSeq, zAsg, zRet, zRetN, zIfS, zNext, zDrop, zPar, zPar3, zAug, zDivmod, zIndex, zCatT, zSlT, zMeth, zVar, zC, zOp, zUn, zNeg, zI0, zI, zTest, zAnd, zOr, zNot, zAndV, zOrV, zNotV, zIf, zNil, zCons, zTup, zLst, zLstC, zgName, zgTup, zgCons, zgNil, zgSub, startZ, zCall, zCB, zChain, zIsN, zNotN, zNever,
  zAddA, zMulA, zRepeat, zCat, zIx, seqD, lstD, zMax2, zMin2, zAbs, zLen, zSum, zGcd, zInt, zYes, zBreak, zCont, zMin1, zMax1, zList, zListC, zLcC, zLc, ziR1, ziR2, ziList, ziTup, ziZip, ziEnum, wipeZ, zFor, zSl, zPart, zNoPart, zAppend, zLstR1, zLstR2, zCallBC, zCallBF,
  at0, at1, at2, at3, at4, ix2_3, ix0_3, isNon_int, isNon_non, Bool.not_true, Bool.not_false,
  List.map_cons, List.map_nil, List.length_cons, List.length_nil, List.replicate_succ, List.replicate_zero, List.append_nil, List.nil_append, List.cons_append, List.getElem?_cons_zero, List.getElem?_cons_succ, List.set_cons_zero, List.set_cons_succ,
  Option.some.injEq, D.int.injEq, D.bl.injEq, D.tup.injEq, D.lst.injEq, D.str.injEq, D.cell.injEq, O.lst.injEq, reduceCtorEq, exists_eq_left', exists_eq_left, false_and, and_false, true_and, and_true, exists_false, or_false, false_or, exists_and_left, exists_eq', exists_and_right, List.cons.injEq, and_assoc, dec_not, dec_yes, nd_t, nd_f, t_t, t_f, f_t, f_f, true_implies, false_implies, implies_true, and_self, Nat.reduceAdd, Nat.reduceLeDiff, Nat.reduceSub, Nat.reduceLT])
local macro_rules | `(tactic| walk_at "zy") => `(tactic| try simp only [Option.some.injEq, D.int.injEq, D.bl.injEq, D.tup.injEq, D.lst.injEq, D.str.injEq, D.cell.injEq, O.lst.injEq, reduceCtorEq, exists_eq_left', exists_eq_left, false_and, and_false, true_and, and_true, exists_false, or_false, false_or, exists_and_left, exists_eq', exists_and_right, List.cons.injEq, and_assoc, dec_not, dec_yes, nd_t, nd_f, t_t, t_f, f_t, f_f, true_implies, false_implies, implies_true, and_self])
/-! ### sums round a row -/
def cs (c : List Int) (p : Nat) : Nat → Int
  | 0 => 0
  | n + 1 => cs c p n + c.getD ((p + n) % c.length) 0
section
variable {c : List Int}
theorem cs_add (p a : Nat) : ∀ b, cs c p (a + b) = cs c p a + cs c (p + a) b
  | 0 => by show cs c p a = cs c p a + 0; omega
  | b + 1 => by
    show cs c p (a + b) + c.getD ((p + (a + b)) % c.length) 0 = cs c p a + (cs c (p + a) b + c.getD ((p + a + b) % c.length) 0)
    rw [cs_add p a b, show p + (a + b) = p + a + b by omega]
    omega
theorem cs_cong {p p' : Nat} (h : p % c.length = p' % c.length) : ∀ n, cs c p n = cs c p' n
  | 0 => rfl
  | n + 1 => by
    have e : (p + n) % c.length = (p' + n) % c.length := by rw [Nat.add_mod, h, ← Nat.add_mod]
    show cs c p n + _ = cs c p' n + _
    rw [cs_cong h n, e]
theorem cs_pre : ∀ n, n ≤ c.length → cs c 0 n = pre c n
  | 0, _ => rfl
  | n + 1, h => by
    show cs c 0 n + c.getD ((0 + n) % c.length) 0 = _
    rw [cs_pre n (by omega), pre_succ (by omega), Nat.zero_add, Nat.mod_eq_of_lt (by omega)]
theorem cs_turn : ∀ p, cs c p c.length = c.sum
  | 0 => by rw [cs_pre _ (Nat.le_refl _), pre_all]
  | p + 1 => by
    have ih := cs_turn p
    have a1 := cs_add (c := c) p 1 c.length
    have a2 : cs c p (c.length + 1) = cs c p c.length + c.getD ((p + c.length) % c.length) 0 := rfl
    have a3 : cs c p 1 = 0 + c.getD ((p + 0) % c.length) 0 := rfl
    rw [Nat.add_mod_right] at a2
    rw [Nat.add_comm 1] at a1
    rw [Nat.add_zero] at a3
    omega
theorem cs_turns (p : Nat) : ∀ q, cs c p (q * c.length) = (q : Int) * c.sum
  | 0 => by rw [Nat.zero_mul]; show (0 : Int) = _; simp
  | q + 1 => by
    rw [Nat.add_mul, Nat.one_mul, cs_add, cs_turns p q, cs_turn, Int.natCast_add, Int.add_mul]
    simp
theorem cs_mono (h0 : ∀ i ∈ c, 0 ≤ i) (p : Nat) : ∀ {a b : Nat}, a ≤ b → cs c p a ≤ cs c p b := by
  intro a b h
  induction h with
  | refl => exact Int.le_refl _
  | @step m _ ih =>
    have : 0 ≤ c.getD ((p + m) % c.length) 0 := by
      rw [List.getD_eq_getElem?_getD]
      cases q : c[(p + m) % c.length]? with
      | none => exact Int.le_refl _
      | some x => exact h0 x (List.mem_of_getElem? q)
    show cs c p a ≤ cs c p m + _
    omega
/-- how many costs from p on fit into r -/
def fitL (c : List Int) (p : Nat) (r : Int) : Nat → Nat → Nat
  | 0, j => j
  | f + 1, j => if cs c p (j + 1) ≤ r then fitL c p r f (j + 1) else j
theorem fitL_ok {p : Nat} {r : Int} (hr : r < cs c p c.length) : ∀ f j, cs c p j ≤ r → j + f = c.length → cs c p (fitL c p r f j) ≤ r ∧ r < cs c p (fitL c p r f j + 1) ∧ fitL c p r f j < c.length
  | 0, j, h1, h2 => by
    rw [Nat.add_zero] at h2
    rw [← h2] at hr
    omega
  | f + 1, j, h1, h2 => by
    unfold fitL
    split
    · rename_i h
      exact fitL_ok hr f (j + 1) h (by omega)
    · rename_i h
      exact ⟨h1, by omega, by omega⟩
/-- how many boxes stand in a line that begins at p -/
def lenf (c : List Int) (room : Int) (amount p : Nat) : Nat := if c.sum = 0 then amount else max 1 ((room / c.sum).toNat * c.length + fitL c p (room % c.sum) c.length 0)
structure LenAt (c : List Int) (room : Int) (amount p l : Nat) : Prop where
  one : 1 ≤ l
  fits : 1 < l → cs c p l ≤ room
  full : l < amount → room < cs c p (l + 1)
theorem sum_nn0 (h0 : ∀ i ∈ c, 0 ≤ i) : 0 ≤ c.sum := by
  have := cs_mono h0 0 (Nat.zero_le c.length)
  rw [cs_turn] at this
  exact this
theorem lenf_ok (h0 : ∀ i ∈ c, 0 ≤ i) {room : Int} (hr : 0 ≤ room) {amount : Nat} (ha : 1 ≤ amount) (p : Nat) : LenAt c room amount p (lenf c room amount p) := by
  unfold lenf
  by_cases hz : c.sum = 0
  · rw [if_pos hz]
    refine ⟨ha, fun _ => ?_, fun h => absurd h (Nat.lt_irrefl _)⟩
    by_cases hl : c.length = 0
    · have : c = [] := List.length_eq_zero_iff.mp hl
      subst this
      have : ∀ n, cs [] p n = 0 := fun n => by
        induction n with
        | zero => rfl
        | succ n ih => show cs [] p n + 0 = 0; omega
      rw [this]; exact hr
    · have h1 := cs_mono h0 p (show amount ≤ amount * c.length from Nat.le_mul_of_pos_right _ (by omega))
      rw [cs_turns, hz, Int.mul_zero] at h1
      omega
  · rw [if_neg hz]
    have hs : 0 < c.sum := by have := sum_nn0 h0; omega
    have m1 := Int.emod_nonneg room hz
    have m2 := Int.emod_lt_of_pos room hs
    have f := fitL_ok (p := p) (r := room % c.sum) (by rw [cs_turn]; exact m2) c.length 0 m1 (by omega)
    have q0 : 0 ≤ room / c.sum := Int.ediv_nonneg hr (by omega)
    have dm := Int.mul_ediv_add_emod room c.sum
    generalize fitL c p (room % c.sum) c.length 0 = j at *
    have key : ∀ n, cs c p ((room / c.sum).toNat * c.length + n) = room / c.sum * c.sum + cs c p n := fun n => by
      rw [cs_add, cs_turns, Int.toNat_of_nonneg q0]
      congr 1
      exact cs_cong (by rw [Nat.add_mul_mod_self_right]) n
    have k1 := key j
    have k2 := key (j + 1)
    rw [Int.mul_comm (room / c.sum)] at k1 k2
    rw [← Nat.add_assoc] at k2
    generalize (room / c.sum).toNat * c.length + j = m at *
    by_cases hm : m = 0
    · subst hm
      rw [show max 1 0 = 1 from rfl]
      refine ⟨Nat.le_refl _, fun h => absurd h (by omega), fun _ => ?_⟩
      have := cs_mono h0 p (show 0 + 1 ≤ 1 + 1 by omega)
      omega
    · rw [show max 1 m = m by omega]
      exact ⟨by omega, fun _ => by omega, fun _ => by omega⟩
end
/-! ### where the lines begin -/
def st (L : Nat → Nat) (w : Nat) : Nat → Nat
  | 0 => 0
  | i + 1 => st L w i + L (st L w i % w)
section
variable {L : Nat → Nat} {w a t : Nat}
theorem st_lt (h1 : ∀ p, 1 ≤ L p) : ∀ {i j : Nat}, i < j → st L w i < st L w j := by
  intro i j h
  induction h with
  | refl => have := h1 (st L w i % w); show st L w i < st L w i + _; omega
  | @step m _ ih => have := h1 (st L w m % w); show st L w i < st L w m + _; omega
theorem st_le (h1 : ∀ p, 1 ≤ L p) {i j : Nat} (h : i ≤ j) : st L w i ≤ st L w j := by
  rcases Nat.lt_or_eq_of_le h with h | rfl
  · exact Nat.le_of_lt (st_lt h1 h)
  · exact Nat.le_refl _
theorem st_one (h1 : ∀ p, 1 ≤ L p) {i j b : Nat} (hi : st L w i ≤ b) (hi2 : b < st L w (i + 1)) (hj : st L w j ≤ b) (hj2 : b < st L w (j + 1)) : i = j := by
  rcases Nat.lt_trichotomy i j with h | h | h
  · have := st_le (L := L) (w := w) h1 (show i + 1 ≤ j by omega); omega
  · exact h
  · have := st_le (L := L) (w := w) h1 (show j + 1 ≤ i by omega); omega
theorem st_at (h1 : ∀ p, 1 ≤ L p) (b : Nat) : ∃ i, st L w i ≤ b ∧ b < st L w (i + 1) := by
  induction b with
  | zero => exact ⟨0, Nat.le_refl _, Nat.lt_of_lt_of_le Nat.zero_lt_one (Nat.le_trans (h1 (st L w 0 % w)) (Nat.le_add_left _ _))⟩
  | succ b ih =>
    obtain ⟨i, h2, h3⟩ := ih
    by_cases h : b + 1 < st L w (i + 1)
    · exact ⟨i, by omega, h⟩
    · refine ⟨i + 1, by omega, ?_⟩
      have := st_lt (L := L) (w := w) h1 (show i + 1 < i + 1 + 1 by omega)
      omega
theorem st_again (h : st L w t % w = st L w a % w) (hat : a ≤ t) (h1 : ∀ p, 1 ≤ L p) : ∀ i, a ≤ i → st L w (i + (t - a)) = st L w i + (st L w t - st L w a) := by
  have hle := st_le (L := L) (w := w) h1 hat
  intro i hi
  induction hi with
  | refl => rw [show a + (t - a) = t by omega]; omega
  | @step m hm ih =>
    rw [show m + 1 + (t - a) = m + (t - a) + 1 by omega]
    show st L w (m + (t - a)) + L (st L w (m + (t - a)) % w) = st L w m + L (st L w m % w) + (st L w t - st L w a)
    have e : (st L w m + (st L w t - st L w a)) % w = st L w m % w := by
      have d : (st L w t - st L w a) % w = 0 := (Nat.sub_mod_eq_zero_of_mod_eq h)
      rw [Nat.add_mod, d, Nat.add_zero, Nat.mod_mod]
    rw [ih, e]
    omega
theorem st_turns (h : st L w t % w = st L w a % w) (hat : a ≤ t) (h1 : ∀ p, 1 ≤ L p) (r : Nat) : ∀ q, st L w (a + (q * (t - a) + r)) = st L w (a + r) + q * (st L w t - st L w a)
  | 0 => by rw [Nat.zero_mul, Nat.zero_mul, Nat.zero_add, Nat.add_zero]
  | q + 1 => by
    have := st_again h hat h1 (a + (q * (t - a) + r)) (by omega)
    rw [show a + ((q + 1) * (t - a) + r) = a + (q * (t - a) + r) + (t - a) by rw [Nat.add_mul]; omega, this, st_turns h hat h1 r q, Nat.add_mul]
    omega
end
end Bx

namespace Bx
open PySem PySem.Spec PyProof.Rows L2 Z
local macro_rules | `(tactic| walk_at "zz") => `(tactic| simp only [zSeq, zAsg, zRet, zRetN, zIfS, zNext, zDrop, zPar, zPar3, zAug, zDivmod, zIndex, zCatT, zSlT, zMeth, zVar, zC, zOp, zUn, zNeg, zI0, zI, zTest, zAnd, zOr, zNot, zAndV, zOrV, zNotV, zIf, zNil, zCons, zTup, zLst, zLstC, zgName, zgTup, zgCons, zgNil, zgSub, startZ, zCall, zCB, zChain, zIsN, zNotN, zNever,
  zAddA, zMulA, zRepeat, zCat, zIx, seqD, lstD, zMax2, zMin2, zAbs, zLen, zSum, zGcd, zInt, zYes, zBreak, zCont, zMin1, zMax1, zList, zListC, zLcC, zLc, ziR1, ziR2, ziList, ziTup, ziZip, ziEnum, wipeZ, zFor, zSl, zPart, zNoPart, zAppend, zLstR1, zLstR2, zCallBC, zCallBF,
  at0, at1, at2, at3, at4, ix2_3, ix0_3, isNon_int, isNon_non, Bool.not_true, Bool.not_false,
  List.map_cons, List.map_nil, List.length_cons, List.length_nil, List.replicate_succ, List.replicate_zero, List.append_nil, List.nil_append, List.cons_append, List.getElem?_cons_zero, List.getElem?_cons_succ, List.set_cons_zero, List.set_cons_succ,
  Option.some.injEq, D.int.injEq, D.bl.injEq, D.tup.injEq, D.lst.injEq, D.str.injEq, D.cell.injEq, O.lst.injEq, reduceCtorEq, exists_eq_left', exists_eq_left, false_and, and_false, true_and, and_true, exists_false, or_false, false_or, exists_and_left, exists_eq', exists_and_right, List.cons.injEq, and_assoc, dec_not, dec_yes, nd_t, nd_f, t_t, t_f, f_t, f_f, true_implies, false_implies, implies_true, and_self, Nat.reduceAdd, Nat.reduceLeDiff, Nat.reduceSub, Nat.reduceLT])
local macro_rules | `(tactic| walk_at "zy") => `(tactic| try simp only [Option.some.injEq, D.int.injEq, D.bl.injEq, D.tup.injEq, D.lst.injEq, D.str.injEq, D.cell.injEq, O.lst.injEq, reduceCtorEq, exists_eq_left', exists_eq_left, false_and, and_false, true_and, and_true, exists_false, or_false, false_or, exists_and_left, exists_eq', exists_and_right, List.cons.injEq, and_assoc, dec_not, dec_yes, nd_t, nd_f, t_t, t_f, f_t, f_f, true_implies, false_implies, implies_true, and_self])
structure Row where
  w : Int
  l : Int
  m : Option Int
  g : Int
  s : Int
def optD : Option Int → D
  | none => .non
  | some i => .int i
def rowL (r : Row) : List D := [.int r.w, .int r.l, optD r.m, .int r.g, .int r.s]
def rowD (r : Row) : D := .tup [.int r.w, .int r.l, optD r.m, .int r.g, .int r.s]
def boxD (r : Row) : D := .ins 0 [.int r.w, .int r.l, optD r.m, .int r.g, .int r.s]
structure Row.Ok (r : Row) : Prop where
  w0 : 0 ≤ r.w
  w1 : r.w ≤ 10 ^ 30
  l0 : 0 ≤ r.l
  l1 : r.l ≤ 10 ^ 30
  m0 : ∀ i, r.m = some i → r.l ≤ i ∧ i ≤ 10 ^ 30
  g0 : 0 ≤ r.g
  g1 : r.g ≤ 10 ^ 6
  s0 : 0 ≤ r.s
  s1 : r.s ≤ 10 ^ 6
/-! ### own functions over data -/
structure Kf (K : PySem.W.Frag) (C : CI) : Prop where
  isi : Isi K (C.adr 0)
  nms : C.nms = nmsOf
section
variable {K : PySem.W.Frag} {C : CI} {Δ : Store} {P : D → Store → Prop}
theorem of_rows : ∀ {ys : List D}, (∀ y ∈ ys, ∃ r, Row.Ok r ∧ y = rowD r) → ∃ rows : List Row, ys = rows.map rowD ∧ ∀ r ∈ rows, Row.Ok r
  | [], _ => ⟨[], rfl, fun _ h => nomatch h⟩
  | y :: ys, h => by
    obtain ⟨r, h1, rfl⟩ := h y List.mem_cons_self
    obtain ⟨rows, rfl, h2⟩ := of_rows fun z hz => h z (List.mem_cons_of_mem _ hz)
    exact ⟨r :: rows, rfl, fun z hz => by rcases List.mem_cons.mp hz with rfl | hz; exact h1; exact h2 z hz⟩
theorem isi_own {x : D} {c : Nat} (hi : Isi K (C.adr c)) (h1 : tyD C Δ x = some (.ref (C.adr c))) (p : P (.bl true) Δ) : zIsi K C [x, .cls c] Δ P :=
  ⟨x, _, _, _, true, rfl, h1, rfl, (fun _ q => by cases q; exact hi), if_pos (beq_self_eq_true _), p⟩
theorem all_ok {l : List D} {bs : List Bool} (h : l = bs.map D.bl) (p : P (.bl (bs.all id)) Δ) : zAll [.lst l] Δ P := ⟨_, bs, rfl, by rw [h]; rfl, p⟩
theorem any_ok {l : List D} {bs : List Bool} (h : l = bs.map D.bl) (p : P (.bl (bs.any id)) Δ) : zAny [.lst l] Δ P := ⟨_, bs, rfl, by rw [h]; rfl, p⟩
theorem sumI_ok {l : List D} {ns : List Int} (h : l = ns.map D.int) (p : P (.int ns.sum) Δ) : zSum [.lst l] Δ P := ⟨_, ns, rfl, by rw [h]; rfl, p⟩
theorem inb_ok {i t : Int} (h0 : 0 ≤ i) (h1 : i ≤ t) (p : P (.bl true) Δ) : W_in_bounds K C [.int i, .int t] Δ P := by
  unfold W_in_bounds z_in_bounds
  walk_at "zz"
  refine is_int_ok ?_
  walk_at "zz"
  rw [decide_eq_true h1]
  exact ⟨fun _ => p, fun h => absurd h0 h⟩
theorem nums_ok {r : Row} (h : r.Ok) (p : P (.bl true) Δ) : W_are_box_numbers K C (rowL r) Δ P := by
  have e30 : (1000000000000000000000000000000 : Int) = 10 ^ 30 := by decide
  have e6 : (1000000 : Int) = 10 ^ 6 := by decide
  unfold W_are_box_numbers z_are_box_numbers rowL
  obtain ⟨w, l, m, g, s⟩ := r
  have hw := h.w1
  have hl := h.l1
  cases m with
  | none =>
    simp only [optD]
    walk_at "zz"
    simp only [compZ]
    walk_at "zz"
    refine inb_ok h.w0 (by rw [e30]; exact h.w1) ?_
    refine inb_ok h.l0 (by rw [e30]; exact h.l1) ?_
    refine all_ok (bs := [true, true]) rfl ⟨true, rfl, fun _ => ?_, fun q => nomatch q⟩
    refine inb_ok h.g0 (by rw [e6]; exact h.g1) (inb_ok h.s0 (by rw [e6]; exact h.s1) ?_)
    exact all_ok (bs := [true, true]) rfl ⟨true, rfl, fun _ => p, fun q => nomatch q⟩
  | some m =>
    have hm := h.m0 m rfl
    simp only [optD]
    walk_at "zz"
    simp only [compZ]
    walk_at "zz"
    refine inb_ok h.w0 (by rw [e30]; exact h.w1) ?_
    refine inb_ok h.l0 (by rw [e30]; exact h.l1) ?_
    refine inb_ok (Int.le_trans h.l0 hm.1) (by rw [e30]; exact hm.2) ?_
    refine all_ok (bs := [true, true, true]) rfl ?_
    refine ⟨true, rfl, fun _ => ?_, fun q => nomatch q⟩
    refine inb_ok h.g0 (by rw [e6]; exact h.g1) (inb_ok h.s0 (by rw [e6]; exact h.s1) ?_)
    refine all_ok (bs := [true, true]) rfl ⟨true, rfl, fun _ => ?_, fun q => nomatch q⟩
    rw [decide_eq_true hm.1]
    exact p
theorem get_end {o : O} : (Δ ++ [o])[Δ.length]? = some o := by rw [List.getElem?_append_right (Nat.le_refl _), Nat.sub_self]; rfl
theorem set_end {o o' : O} : (Δ ++ [o]).set Δ.length o' = Δ ++ [o'] := by rw [List.set_append_right _ _ (Nat.le_refl _), Nat.sub_self]; rfl
theorem setF_ok {Ze : ZEnds} {Γ : Z.Env} {f : Str} {c i : Nat} {y : D} {fs : List (Str × D)} (h0 : Γ[0]? = some (some (.cell Δ.length))) (h1 : Γ[i]? = some (some y)) (hl : fs.length < 1000) (h : Ze.nx Γ (Δ ++ [.ins c (putFd f y fs)])) : zSetF c f (zVar 0) (zVar i) Ze Γ (Δ ++ [.ins c fs]) :=
  ⟨y, h1, _, h0, _, fs, rfl, get_end, hl, by rw [set_end]; exact h⟩
theorem putFd_len {f : Str} {v : D} {n : Nat} : ∀ {l : List (Str × D)}, l.length ≤ n → (putFd f v l).length ≤ n + 1
  | [], _ => by show 1 ≤ n + 1; omega
  | (g, x) :: r, h => by
    have h' : r.length + 1 ≤ n := h
    unfold putFd
    split
    · show r.length + 1 ≤ n + 1; omega
    · have := putFd_len (f := f) (v := v) (n := n - 1) (l := r) (by omega)
      show (putFd f v r).length + 1 ≤ n + 1
      omega
theorem lt1000 {a n : Nat} (h : a ≤ n) (hn : n < 1000) : a < 1000 := Nat.lt_of_le_of_lt h hn
theorem init_ok {r : Row} (h : r.Ok) (p : P .non (Δ ++ [.ins 0 ((nmsOf 0).zip (rowL r))])) : W_Box_d_init_d K C (.cell Δ.length :: rowL r) (Δ ++ [.ins 0 []]) P := by
  unfold W_Box_d_init_d z_Box_d_init_d rowL
  walk_at "zz"
  refine nums_ok h ?_
  walk_at "zz"
  refine setF_ok rfl rfl (by decide) (setF_ok rfl rfl (lt1000 (n := 1) ?_ (by decide)) (setF_ok rfl rfl (lt1000 (n := 2) ?_ (by decide)) (setF_ok rfl rfl (lt1000 (n := 3) ?_ (by decide)) (setF_ok rfl rfl (lt1000 (n := 4) ?_ (by decide)) p))))
  all_goals exact putFd_len (by first | exact Nat.le_refl _ | exact putFd_len (by first | exact Nat.le_refl _ | exact putFd_len (by first | exact Nat.le_refl _ | exact putFd_len (Nat.le_refl _))))
theorem made_ok (F : Kf K C) {rows : List Row} (hl : rows.length ≤ 1000) (hr : ∀ r ∈ rows, r.Ok) (p : P (.lst (rows.map boxD)) Δ) : W__law_made K C [.lst (rows.map rowD)] Δ P := by
  unfold W__law_made z__law_made
  walk_at "zz"
  refine comp_map (g := rowD) (f := boxD) rows [] (by simp; omega) (fun r hr' Q q => ?_) p
  unfold zMakeF rowD
  walk_at "zz"
  refine init_ok (hr r hr') ?_
  refine ⟨rfl, rowL r, by rw [F.nms], by rw [F.nms]; rfl, ?_, q⟩
  obtain ⟨w, l, m, g, s⟩ := r
  cases m <;> rfl
/-! the numbers of a box -/
def limO (v l : Int) (m : Option Int) : Int := if v < l then l else match m with
  | none => v
  | some m => if m < v then m else v
def ownI (r : Row) : Int := limO r.w r.l r.m
theorem fld (F : Kf K C) {r : Row} {f : Str} {d : D} (h : ((nmsOf 0).zip (rowL r)).lookup f = some d) : fldD C Δ 0 f (boxD r) = some d := by
  unfold fldD boxD
  rw [F.nms]
  exact h
theorem lim_ok {v l : Int} {m : Option Int} (p : P (.int (limO v l m)) Δ) : W_limited K C [.int v, .int l, optD m] Δ P := by
  unfold W_limited z_limited
  unfold limO at p
  cases m with
  | none =>
    simp only [optD]
    walk_at "zz"
    refine ⟨fun h => ?_, fun h => ?_⟩
    · rw [if_pos h] at p; exact p
    · rw [if_neg h] at p; exact p
  | some m =>
    simp only [optD]
    walk_at "zz"
    refine ⟨fun h => ?_, fun h => ⟨fun h2 => ?_, fun h2 => ?_⟩⟩
    · rw [if_pos h] at p; exact p
    · rw [if_neg h] at p; simp only [if_pos h2] at p; exact p
    · rw [if_neg h] at p; simp only [if_neg h2] at p; exact p
theorem ownB_ok (F : Kf K C) {r : Row} (p : P (.int (ownI r)) Δ) : W_Box_own K C [boxD r] Δ P := by
  unfold W_Box_own z_Box_own zFld
  walk_at "zz"
  exact ⟨_, fld F rfl, _, fld F rfl, _, fld F rfl, lim_ok p⟩
theorem check_ok (F : Kf K C) {rows : List Row} (h1 : rows ≠ []) (h2 : rows.length ≤ 40) (p : P .non Δ) : W_check_boxes K C [.lst (rows.map boxD)] Δ P := by
  have h0 : 0 < rows.length := List.length_pos_iff.mpr h1
  unfold W_check_boxes z_check_boxes
  walk_at "zz"
  refine isi_ty (r := true) rfl (by decide +kernel) ?_
  walk_at "zz"
  rw [List.length_map]
  refine ⟨fun _ => ⟨fun q => ?_, fun _ => ?_⟩, fun q => by omega⟩
  · omega
  · refine comp_map (g := boxD) (f := fun _ => .bl true) rows [] (by simp; omega) (fun r _ Q q => ?_) ?_
    · walk_at "zz"
      exact isi_own F.isi rfl q
    · refine all_ok (bs := rows.map fun _ => true) (by rw [List.nil_append, List.map_map]; rfl) ⟨_, rfl, fun q => ?_, fun _ => p⟩
      rw [show ((rows.map fun _ => true).all id) = true from by simp] at q
      cases q
end
end Bx

namespace Bx
open PySem PySem.Spec PyProof.Rows L2 Z
local macro_rules | `(tactic| walk_at "zz") => `(tactic| simp only [zSeq, zAsg, zRet, zRetN, zIfS, zNext, zDrop, zPar, zPar3, zAug, zDivmod, zIndex, zCatT, zSlT, zMeth, zVar, zC, zOp, zUn, zNeg, zI0, zI, zTest, zAnd, zOr, zNot, zAndV, zOrV, zNotV, zIf, zNil, zCons, zTup, zLst, zLstC, zgName, zgTup, zgCons, zgNil, zgSub, startZ, zCall, zCB, zChain, zIsN, zNotN, zNever,
  zAddA, zMulA, zRepeat, zCat, zIx, seqD, lstD, zMax2, zMin2, zAbs, zLen, zSum, zGcd, zInt, zYes, zBreak, zCont, zMin1, zMax1, zList, zListC, zLcC, zLc, ziR1, ziR2, ziList, ziTup, ziZip, ziEnum, wipeZ, zFor, zSl, zPart, zNoPart, zAppend, zLstR1, zLstR2, zCallBC, zCallBF,
  at0, at1, at2, at3, at4, ix2_3, ix0_3, isNon_int, isNon_non, Bool.not_true, Bool.not_false,
  List.map_cons, List.map_nil, List.length_cons, List.length_nil, List.replicate_succ, List.replicate_zero, List.append_nil, List.nil_append, List.cons_append, List.getElem?_cons_zero, List.getElem?_cons_succ, List.set_cons_zero, List.set_cons_succ,
  Option.some.injEq, D.int.injEq, D.bl.injEq, D.tup.injEq, D.lst.injEq, D.str.injEq, D.cell.injEq, O.lst.injEq, reduceCtorEq, exists_eq_left', exists_eq_left, false_and, and_false, true_and, and_true, exists_false, or_false, false_or, exists_and_left, exists_eq', exists_and_right, List.cons.injEq, and_assoc, dec_not, dec_yes, nd_t, nd_f, t_t, t_f, f_t, f_f, true_implies, false_implies, implies_true, and_self, Nat.reduceAdd, Nat.reduceLeDiff, Nat.reduceSub, Nat.reduceLT])
local macro_rules | `(tactic| walk_at "zy") => `(tactic| try simp only [Option.some.injEq, D.int.injEq, D.bl.injEq, D.tup.injEq, D.lst.injEq, D.str.injEq, D.cell.injEq, O.lst.injEq, reduceCtorEq, exists_eq_left', exists_eq_left, false_and, and_false, true_and, and_true, exists_false, or_false, false_or, exists_and_left, exists_eq', exists_and_right, List.cons.injEq, and_assoc, dec_not, dec_yes, nd_t, nd_f, t_t, t_f, f_t, f_f, true_implies, false_implies, implies_true, and_self])
section
variable {K : PySem.W.Frag} {C : CI} {Δ Δ' : Store} {P : D → Store → Prop} {c : List Int}
theorem divp {i j : Int} (h : CDivW i j) : CDivP i j := ⟨h.1, PyProof.noPylong_of_log2 h.2⟩
theorem fit_ok {p : Nat} {room : Int} (h0 : ∀ i ∈ c, 0 ≤ i) (hw : 1 ≤ c.length) (h40 : c.length ≤ 100) (hs : 0 < c.sum) (hs2 : c.sum < 2 ^ 200) (hr : 0 ≤ room) (hp : p < c.length) (q : P (.int (((room / c.sum).toNat * c.length + fitL c p (room % c.sum) c.length 0 : Nat) : Int)) Δ) : W_boxes_that_fit K C [.lst (isD c), .int (p : Int), .int room] Δ P := by
  have m1 := Int.emod_nonneg room (b := c.sum) (by omega)
  have m2 := Int.emod_lt_of_pos room hs
  have q0 : 0 ≤ room / c.sum := Int.ediv_nonneg hr (by omega)
  have f := fitL_ok (p := p) (r := room % c.sum) (by rw [cs_turn]; exact m2) c.length 0 m1 (by omega)
  unfold W_boxes_that_fit z_boxes_that_fit
  refine ⟨rfl, ?_⟩
  refine seq_cut fun rest hr => ?_
  walk_at "zz"
  refine ⟨_, rfl, divp (divk hs (by omega)), ?_⟩
  subst hr
  refine seq_cut fun rest hr => ?_
  walk_at "zz"
  rw [isD_len]
  refine ⟨.r (by omega) (by omega), ?_⟩
  obtain ⟨pt, hpt⟩ : ∃ pt : Nat, room / c.sum = (pt : Int) := ⟨(room / c.sum).toNat, by omega⟩
  rw [hpt] at q ⊢
  rw [Int.toNat_natCast] at q
  generalize room % c.sum = r0 at *
  subst hr
  refine seq_cut fun rest hr => ?_
  refine ⟨fun n Γ E => ∃ j : Nat, n + j = c.length ∧ fitL c p r0 (c.length - j) j = fitL c p r0 c.length 0 ∧ cs c p j ≤ r0 ∧ E = Δ ∧ Γ = [some (.lst (isD c)), some (.int (p : Int)), some (.int room), some (.int (pt : Int)), some (.int (r0 - cs c p j)), some (.int ((pt * c.length + j : Nat) : Int)), some (.int (((p + j) % c.length : Nat) : Int))], ⟨c.length, 0, by omega, by rw [Nat.sub_zero], m1, rfl, ?_⟩, ?_⟩
  · have e0 : cs c p 0 = 0 := rfl
    rw [e0, Int.sub_zero, Nat.add_zero, Nat.add_zero, Nat.mod_eq_of_lt hp, Int.natCast_mul]
  · rintro n _ E ⟨j, hn, hf, hj, hE, rfl⟩
    subst hE
    walk_at "zz"
    have hml : (p + j) % c.length < c.length := Nat.mod_lt _ (by omega)
    have hc : cs c p (j + 1) = cs c p j + c.getD ((p + j) % c.length) 0 := rfl
    have hjl : j < c.length := by
      by_cases h' : j < c.length
      · exact h'
      · have e : j = c.length := by omega
        rw [e, cs_turn] at hj
        omega
    rw [atI_ints hml]
    refine ⟨_, rfl, _, rfl, fun h => ⟨_, rfl, _, rfl, by rw [isD_len]; omega, ?_⟩, fun h => ?_⟩
    · refine ⟨n - 1, by omega, j + 1, by omega, ?_, by omega, by omega, by omega, ?_⟩
      · rw [← hf, show c.length - j = (c.length - (j + 1)) + 1 by omega]
        show _ = (if _ then _ else _)
        rw [if_pos (by omega)]
      · rw [isD_len]
        have e : ((p + j) % c.length + 1) % c.length = (p + (j + 1)) % c.length := by rw [← Nat.add_assoc, Nat.mod_add_mod]
        exact_mod_cast e
    · show rest _ _
      subst hr
      walk_at "zz"
      have e : fitL c p r0 (c.length - j) j = j := by
        rw [show c.length - j = (c.length - (j + 1)) + 1 by omega]
        show (if _ then _ else _) = _
        rw [if_neg (by omega)]
      rw [← hf, e] at q
      exact q
end
end Bx

namespace Bx
open PySem PySem.Spec PyProof.Rows L2 Z
local macro_rules | `(tactic| walk_at "zz") => `(tactic| simp only [zSeq, zAsg, zRet, zRetN, zIfS, zNext, zDrop, zPar, zPar3, zAug, zDivmod, zIndex, zCatT, zSlT, zMeth, zVar, zC, zOp, zUn, zNeg, zI0, zI, zTest, zAnd, zOr, zNot, zAndV, zOrV, zNotV, zIf, zNil, zCons, zTup, zLst, zLstC, zgName, zgTup, zgCons, zgNil, zgSub, startZ, zCall, zCB, zChain, zIsN, zNotN, zNever,
  zAddA, zMulA, zRepeat, zCat, zIx, seqD, lstD, zMax2, zMin2, zAbs, zLen, zSum, zGcd, zInt, zYes, zBreak, zCont, zMin1, zMax1, zList, zListC, zLcC, zLc, ziR1, ziR2, ziList, ziTup, ziZip, ziEnum, wipeZ, zFor, zSl, zPart, zNoPart, zAppend, zLstR1, zLstR2, zCallBC, zCallBF,
  at0, at1, at2, at3, at4, ix2_3, ix0_3, isNon_int, isNon_non, Bool.not_true, Bool.not_false,
  List.map_cons, List.map_nil, List.length_cons, List.length_nil, List.replicate_succ, List.replicate_zero, List.append_nil, List.nil_append, List.cons_append, List.getElem?_cons_zero, List.getElem?_cons_succ, List.set_cons_zero, List.set_cons_succ,
  Option.some.injEq, D.int.injEq, D.bl.injEq, D.tup.injEq, D.lst.injEq, D.str.injEq, D.cell.injEq, O.lst.injEq, reduceCtorEq, exists_eq_left', exists_eq_left, false_and, and_false, true_and, and_true, exists_false, or_false, false_or, exists_and_left, exists_eq', exists_and_right, List.cons.injEq, and_assoc, dec_not, dec_yes, nd_t, nd_f, t_t, t_f, f_t, f_f, true_implies, false_implies, implies_true, and_self, Nat.reduceAdd, Nat.reduceLeDiff, Nat.reduceSub, Nat.reduceLT])
local macro_rules | `(tactic| walk_at "zy") => `(tactic| try simp only [Option.some.injEq, D.int.injEq, D.bl.injEq, D.tup.injEq, D.lst.injEq, D.str.injEq, D.cell.injEq, O.lst.injEq, reduceCtorEq, exists_eq_left', exists_eq_left, false_and, and_false, true_and, and_true, exists_false, or_false, false_or, exists_and_left, exists_eq', exists_and_right, List.cons.injEq, and_assoc, dec_not, dec_yes, nd_t, nd_f, t_t, t_f, f_t, f_f, true_implies, false_implies, implies_true, and_self])
/-- what a row of costs has to be -/
structure Cst (c : List Int) (room : Int) (amount : Nat) : Prop where
  h0 : ∀ i ∈ c, 0 ≤ i
  w1 : 1 ≤ c.length
  w40 : c.length ≤ 40
  s2 : c.sum < 2 ^ 200
  r0 : 0 ≤ room
  r1 : room ≤ 10 ^ 70
  a1 : 1 ≤ amount
  a2 : amount ≤ 10 ^ 50
/-- an object with these numbers -/
structure LnF (C : CI) (Δ : Store) (x : D) (c : List Int) (room : Int) (amount : Nat) : Prop where
  costs : fldD C Δ 1 (Str.ofString "costs") x = some (.lst (isD c))
  room : fldD C Δ 1 (Str.ofString "room") x = some (.int room)
  amount : fldD C Δ 1 (Str.ofString "amount") x = some (.int (amount : Int))
  wide : fldD C Δ 1 (Str.ofString "wide") x = some (.int (c.length : Int))
def fsL (c : List Int) (room : Int) (amount : Nat) (k : Nat) (ag : D) : List (Str × D) := (nmsOf 1).zip [.int (c.length : Int), .int (amount : Int), .lst (isD c), .int room, .cell k, ag]
section
variable {K : PySem.W.Frag} {C : CI} {Δ Δ' : Store} {P : D → Store → Prop} {c : List Int} {room : Int} {amount : Nat} {x : D}
theorem len_ok (H : Cst c room amount) (F : LnF C Δ x c room amount) {p : Nat} (hp : p < c.length) (q : P (.int (lenf c room amount p : Nat)) Δ) : W_Lines_length_at K C [x, .int (p : Int)] Δ P := by
  unfold W_Lines_length_at z_Lines_length_at zFld
  walk_at "zz"
  unfold lenf at q
  refine ⟨_, F.costs, _, rfl, ?_⟩
  refine eq_ints ⟨_, rfl, fun h => ?_, fun h => ?_⟩
  · have : c.sum = 0 := beq_iff_eq.mp h
    rw [if_pos this] at q
    exact ⟨_, F.amount, q⟩
  · have hz : ¬ c.sum = 0 := by simpa using h
    rw [if_neg hz] at q
    have := sum_nn0 H.h0
    refine ⟨_, F.costs, _, F.room, ?_⟩
    refine fit_ok H.h0 H.w1 (by have := H.w40; omega) (by omega) H.s2 H.r0 hp ?_
    refine ⟨_, rfl, ?_⟩
    have e : ((max 1 ((room / c.sum).toNat * c.length + fitL c p (room % c.sum) c.length 0) : Nat) : Int) = if ((((room / c.sum).toNat * c.length + fitL c p (room % c.sum) c.length 0 : Nat)) : Int) > 1 then ((((room / c.sum).toNat * c.length + fitL c p (room % c.sum) c.length 0 : Nat)) : Int) else 1 := by
      generalize (room / c.sum).toNat * c.length + fitL c p (room % c.sum) c.length 0 = z
      split <;> omega
    rw [← e]
    exact q
theorem atI_lastL {ds : List D} {n : Nat} {d : D} (hl : ds.length = n + 1) (h : ds[n]? = some d) : atI ds (-1) = some d := by
  unfold atI ixN
  rw [hl, if_neg (by decide), if_pos (by omega)]
  show ds[(-1 + ((n + 1 : Nat) : Int)).toNat]? = _
  rw [show (-1 + ((n + 1 : Nat) : Int)).toNat = n by omega]
  exact h
theorem fsL_nms {k : Nat} {ag : D} : (fsL c room amount k ag).map (·.1) = nmsOf 1 := rfl
/-- the starts -/
def stD (c : List Int) (room : Int) (amount t : Nat) : List Int := fl (t + 1) fun i => (st (lenf c room amount) c.length i : Int)
theorem fsL_F {n : Nat} {k : Nat} {ag : D} (h : Δ[n]? = some (.ins 1 (fsL c room amount k ag))) : LnF C Δ (.cell n) c room amount := by
  refine ⟨?_, ?_, ?_, ?_⟩ <;>
  · unfold fldD
    simp only [h]
    rfl
theorem fsL_st {n : Nat} {k : Nat} {ag : D} (h : Δ[n]? = some (.ins 1 (fsL c room amount k ag))) : fldD C Δ 1 (Str.ofString "starts") (.cell n) = some (.cell k) := by
  unfold fldD
  simp only [h]
  rfl
theorem fsL_ag {n : Nat} {k : Nat} {ag : D} (h : Δ[n]? = some (.ins 1 (fsL c room amount k ag))) : fldD C Δ 1 (Str.ofString "again") (.cell n) = some ag := by
  unfold fldD
  simp only [h]
  rfl
/-- an object as data -/
def linD (c : List Int) (room : Int) (amount : Nat) (S : List Int) (ag : D) : D := .ins 1 [.int (c.length : Int), .int (amount : Int), .lst (isD c), .int room, .lst (isD S), ag]
theorem frx_isD {E : Store} {m : Nat} (s : List Int) : ∀ k, (isD s).map (Z.frx C E m k) = isD s
  | 0 => by
    have : Z.frx C E m 0 = id := rfl
    rw [this, List.map_id]
  | k + 1 => by
    unfold isD
    rw [List.map_map]
    rfl
theorem frx_lin {E : Store} {S : List Int} {m n k : Nat} {ag : D} (hC : C.nms = nmsOf) (h1 : E[n]? = some (.ins 1 (fsL c room amount k ag))) (h2 : E[k]? = some (.lst (isD S))) (hn : m ≤ n) (hk : m ≤ k) (hag : ag = .non ∨ ∃ i, ag = .int i) : Z.frx C E m 4 (.cell n) = linD c room amount S ag := by
  have ea : Z.frx C E m 3 ag = ag := by rcases hag with rfl | ⟨i, rfl⟩ <;> rfl
  have ec : Z.frx C E m 3 (.cell k) = .lst (isD S) := by
    show (if k < m then D.cell k else _) = _
    rw [if_neg (by omega)]
    simp only [h2]
    rw [frx_isD]
  have el : Z.frx C E m 3 (.lst (isD c)) = .lst (isD c) := by
    show D.lst ((isD c).map (Z.frx C E m 2)) = _
    rw [frx_isD]
  show (if n < m then D.cell n else _) = _
  rw [if_neg (by omega)]
  simp only [h1]
  rw [fsL_nms, hC, if_pos rfl]
  show D.ins 1 [Z.frx C E m 3 (.int (c.length : Int)), Z.frx C E m 3 (.int (amount : Int)), Z.frx C E m 3 (.lst (isD c)), Z.frx C E m 3 (.int room), Z.frx C E m 3 (.cell k), Z.frx C E m 3 ag] = _
  rw [ea, ec, el]
  rfl
theorem lin_below {S : List Int} {m : Nat} {ag : D} (hag : ag = .non ∨ ∃ i, ag = .int i) : Z.below m (linD c room amount S ag) = true := by
  refine below_mono (Nat.zero_le m) _ ?_
  have ea : Z.below 0 ag = true := by rcases hag with rfl | ⟨i, rfl⟩ <;> rfl
  show (true && (true && (Z.belowL 0 (isD c) && (true && (Z.belowL 0 (isD S) && (Z.below 0 ag && true)))))) = true
  rw [below_ints, below_ints, ea]
  rfl
theorem lent_lin {E : Store} {S : List Int} {n k : Nat} {ag : D} (hC : C.nms = nmsOf) (h1 : E[n]? = some (.ins 1 (fsL c room amount k ag))) (h2 : E[k]? = some (.lst (isD S))) (hag : ag = .non ∨ ∃ i, ag = .int i) : lentX C E (some (.cell n)) = some (linD c room amount S ag) := by
  show (if Z.below 0 (Z.frx C E 0 4 (.cell n)) = true then some (Z.frx C E 0 4 (.cell n)) else none) = _
  rw [frx_lin hC h1 h2 (Nat.zero_le _) (Nat.zero_le _) hag]
  exact if_pos (lin_below hag)
theorem lin_fld {S : List Int} {ag d : D} {f : Str} (hC : C.nms = nmsOf) (h : ((nmsOf 1).zip [D.int (c.length : Int), .int (amount : Int), .lst (isD c), .int room, .lst (isD S), ag]).lookup f = some d) : fldD C Δ 1 f (linD c room amount S ag) = some d := by
  unfold fldD linD
  rw [hC]
  exact h
theorem lin_F {S : List Int} {ag : D} (hC : C.nms = nmsOf) : LnF C Δ (linD c room amount S ag) c room amount := ⟨lin_fld hC rfl, lin_fld hC rfl, lin_fld hC rfl, lin_fld hC rfl⟩
theorem comp_is {s : List Int} {zg : ZG} {ze : ZE} {Γ0 : Z.Env} {P : D → Store → Prop} {Δ : Store} {f : Int → D} (hl : s.length ≤ 100000) (hs : ∀ e ∈ s, ∀ Q : D → Store → Prop, Q (f e) Δ → zg (.int e) Γ0 Δ fun Γ2 Δ2 => ze Γ2 Δ2 Q)
    (h : P (.lst (s.map f)) Δ) : compZ zg zYes ze Γ0 P (isD s) [] Δ := by
  unfold isD
  exact comp_map s [] (by simpa using hl) hs (by simpa using h)
theorem least {p : Nat → Prop} : ∀ a, p a → ∃ b, p b ∧ ∀ i, i < b → ¬ p i := by
  intro a
  induction a using Nat.strongRecOn with
  | _ a ih =>
    intro h
    by_cases q : ∃ i, i < a ∧ p i
    · obtain ⟨i, h1, h2⟩ := q
      exact ih i h1 h2
    · exact ⟨a, h, fun i hi hp => q ⟨i, hi, hp⟩⟩
theorem inD_is {r : Int} : ∀ {l : List Int}, Z.inD (.int r) (isD l) = true ↔ r ∈ l
  | [] => by
    constructor
    · intro h; exact nomatch h
    · intro h; exact nomatch h
  | y :: l => by
    have ih := inD_is (r := r) (l := l)
    have e : Z.inD (.int r) (isD (y :: l)) = (L2.eqV (.int y) (.int r) || Z.inD (.int r) (isD l)) := rfl
    have e2 : L2.eqV (.int y) (.int r) = (y == r) := rfl
    rw [e, e2, Bool.or_eq_true, ih, beq_iff_eq, List.mem_cons]
    constructor
    · rintro (h | h)
      · exact .inl h.symm
      · exact .inr h
    · rintro (h | h)
      · exact .inl h.symm
      · exact .inr h
theorem add_ok (F : Kf K C) (H : Cst c room amount) {t : Nat} (ht : t ≤ 60) (p : (∀ a, a ≤ t → st (lenf c room amount) c.length (t + 1) % c.length = st (lenf c room amount) c.length a % c.length → (∀ i, i < a → st (lenf c room amount) c.length (t + 1) % c.length ≠ st (lenf c room amount) c.length i % c.length) → P .non (Δ ++ [.ins 1 (fsL c room amount (Δ.length + 1) (.int (a : Int))), .lst (isD (stD c room amount (t + 1)))])))
    (p2 : (∀ a, a ≤ t → st (lenf c room amount) c.length (t + 1) % c.length ≠ st (lenf c room amount) c.length a % c.length) → P .non (Δ ++ [.ins 1 (fsL c room amount (Δ.length + 1) .non), .lst (isD (stD c room amount (t + 1)))])) :
    W_Lines_add_line K C [.cell Δ.length] (Δ ++ [.ins 1 (fsL c room amount (Δ.length + 1) .non), .lst (isD (stD c room amount t))]) P := by
  have g1 : ∀ (o o' : O), (Δ ++ [o, o'])[Δ.length]? = some o := fun o o' => by rw [List.getElem?_append_right (Nat.le_refl _), Nat.sub_self]; rfl
  have g2 : ∀ (o o' : O), (Δ ++ [o, o'])[Δ.length + 1]? = some o' := fun o o' => by rw [List.getElem?_append_right (by omega), show Δ.length + 1 - Δ.length = 1 by omega]; rfl
  have hst : ∀ j, j ≤ t → (isD (stD c room amount t))[j]? = some (.int (st (lenf c room amount) c.length j : Int)) := fun j hj => ints_get (fl_get? (by omega))
  have hlen : (isD (stD c room amount t)).length = t + 1 := by rw [isD_len]; exact fl_len
  generalize hL : lenf c room amount = L at *
  unfold W_Lines_add_line z_Lines_add_line zFld zMeth
  refine ⟨rfl, ?_⟩
  refine seq_cut fun rest hr => ?_
  walk_at "zz"
  refine ⟨_, fsL_st (g1 _ _), ?_⟩
  simp only [g2]
  have hL1 : ∀ p, 1 ≤ lenf c room amount p := fun p => (lenf_ok H.h0 H.r0 H.a1 p).one
  rw [hL] at hL1
  have nm : Str.ofString "length_at" ∉ nmsOf 1 := by decide
  refine ⟨_, rfl, _, atI_lastL hlen (hst t (Nat.le_refl _)), .inr ⟨_, _, rfl, g1 _ _, by rw [fsL_nms]; exact nm⟩, _, fsL_st (g1 _ _), ?_⟩
  simp only [g2]
  refine ⟨_, rfl, _, atI_lastL hlen (hst t (Nat.le_refl _)), _, (fsL_F (g1 _ _)).wide, _, rfl, _, rfl, by have := H.w1; omega, ?_⟩
  have em : ((st L c.length t : Nat) : Int) % (c.length : Int) = ((st L c.length t % c.length : Nat) : Int) := by exact_mod_cast rfl
  rw [em]
  refine len_ok H (fsL_F (g1 _ _)) (Nat.mod_lt _ (by have := H.w1; omega)) ?_
  refine ⟨_, rfl, _, rfl, ?_⟩
  have es : ((st L c.length t : Nat) : Int) + ((lenf c room amount (st L c.length t % c.length) : Nat) : Int) = ((st L c.length (t + 1) : Nat) : Int) := by
    rw [hL, ← Int.natCast_add]
    rfl
  rw [es]
  subst hr
  refine seq_cut fun rest hr => ?_
  simp only [zAsg, zLendX, zLcC, zFld, List.map_cons, List.map_nil]
  walk_at "zz"
  rw [lent_lin F.nms (g1 _ _) (g2 _ _) (.inl rfl)]
  refine ⟨_, rfl, _, lin_fld F.nms rfl, .inl ⟨_, rfl, ?_⟩⟩
  refine comp_is (f := fun i : Int => D.int (i % (c.length : Int))) (by unfold stD; rw [fl_len]; omega) (fun i hi Q q => ?_) ?_
  · walk_at "zz"
    exact ⟨_, lin_fld F.nms rfl, _, rfl, by have := H.w1; omega, q⟩
  have e2 : (stD c room amount t).map (fun i => D.int (i % (c.length : Int))) = isD (fl (t + 1) fun i => ((st L c.length i % c.length : Nat) : Int)) := by
    unfold stD fl isD
    rw [List.map_map, List.map_map, hL]
    exact List.map_congr_left fun i _ => by
      show D.int (((st L c.length i : Nat) : Int) % (c.length : Int)) = D.int ((st L c.length i % c.length : Nat) : Int)
      congr 1
  rw [e2]
  refine ⟨_, rfl, 0, rfl, _, rfl, bare_ints _, ?_⟩
  subst hr
  refine seq_cut fun rest hr => ?_
  walk_at "zz"
  refine ⟨_, fsL_st (g1 _ _), ⟨_, rfl, _, g2 _ _⟩, _, rfl, _, g2 _ _, by rw [hlen]; omega, ?_⟩
  have set2 : ∀ (o o' x : O), (Δ ++ [o, o']).set (Δ.length + 1) x = Δ ++ [o, x] := fun o o' x => by
    rw [List.set_append_right _ _ (by omega), show Δ.length + 1 - Δ.length = 1 by omega]
    rfl
  have set1 : ∀ (o o' x : O), (Δ ++ [o, o']).set Δ.length x = Δ ++ [x, o'] := fun o o' x => by
    rw [List.set_append_right _ _ (Nat.le_refl _), Nat.sub_self]
    rfl
  have e3 : isD (stD c room amount t) ++ [D.int ((st L c.length (t + 1) : Nat) : Int)] = isD (stD c room amount (t + 1)) := by
    unfold stD fl isD
    rw [List.range_succ (n := t + 1), List.map_append, List.map_append, hL]
    rfl
  rw [set2, e3]
  subst hr
  walk_at "zz"
  have em2 : ((st L c.length (t + 1) : Nat) : Int) % (c.length : Int) = ((st L c.length (t + 1) % c.length : Nat) : Int) := by exact_mod_cast rfl
  have e4 : (D.lst (isD (fl (t + 1) fun i => ((st L c.length i % c.length : Nat) : Int)))) = .lst ((fl (t + 1) fun i => ((st L c.length i % c.length : Nat) : Int)).map D.int) := rfl
  refine ⟨_, (fsL_F (g1 _ _)).wide, _, rfl, by have := H.w1; omega, ?_⟩
  rw [em2]
  refine ⟨_, rfl, rfl, ?_, _, rfl, fun h => ?_, fun h => ?_⟩
  · rw [List.all_eq_true]
    intro d hd
    obtain ⟨i, _, rfl⟩ := List.mem_map.mp hd
    rfl
  · -- found
    have hm := inD_is.mp h
    have hex : ∃ a, a ≤ t ∧ st L c.length (t + 1) % c.length = st L c.length a % c.length := by
      obtain ⟨a, ha, e⟩ := List.mem_map.mp hm
      have := List.mem_range.mp ha
      exact ⟨a, by omega, by have : ((st L c.length a % c.length : Nat) : Int) = _ := e; omega⟩
    obtain ⟨a, ha, hno⟩ : ∃ a, (a ≤ t ∧ st L c.length (t + 1) % c.length = st L c.length a % c.length) ∧ ∀ i, i < a → ¬ (i ≤ t ∧ st L c.length (t + 1) % c.length = st L c.length i % c.length) := by
      obtain ⟨a, ha⟩ := hex
      exact least a ha
    simp only [zSetF, zIndex]
    walk_at "zz"
    refine ⟨fl (t + 1) fun i => ((st L c.length i % c.length : Nat) : Int), rfl, _, (fsL_F (g1 _ _)).wide, _, rfl, by have := H.w1; omega, a, ?_, fun m hma hm2 => ?_, _, g1 _ _, by show (6 : Nat) < 1000; decide, ?_⟩
    · rw [em2, fl_get? (by omega), ha.2]
    · rw [em2, fl_get? (by omega)] at hm2
      have := Option.some.inj hm2
      exact hno m hma ⟨by omega, by omega⟩
    · rw [set1]
      exact p a ha.1 ha.2 fun i hi e => hno i hi ⟨by omega, e⟩
  · refine p2 fun a ha e => ?_
    have hm : ((st L c.length (t + 1) % c.length : Nat) : Int) ∈ fl (t + 1) fun i => ((st L c.length i % c.length : Nat) : Int) := List.mem_map.mpr ⟨a, List.mem_range.mpr (by omega), by rw [← e]⟩
    rw [inD_is.mpr hm] at h
    exact nomatch h
end
end Bx

namespace Bx
open PySem PySem.Spec PyProof.Rows L2 Z
local macro_rules | `(tactic| walk_at "zz") => `(tactic| simp only [zSeq, zAsg, zRet, zRetN, zIfS, zNext, zDrop, zPar, zPar3, zAug, zDivmod, zIndex, zCatT, zSlT, zMeth, zVar, zC, zOp, zUn, zNeg, zI0, zI, zTest, zAnd, zOr, zNot, zAndV, zOrV, zNotV, zIf, zNil, zCons, zTup, zLst, zLstC, zgName, zgTup, zgCons, zgNil, zgSub, startZ, zCall, zCB, zChain, zIsN, zNotN, zNever,
  zAddA, zMulA, zRepeat, zCat, zIx, seqD, lstD, zMax2, zMin2, zAbs, zLen, zSum, zGcd, zInt, zYes, zBreak, zCont, zMin1, zMax1, zList, zListC, zLcC, zLc, ziR1, ziR2, ziList, ziTup, ziZip, ziEnum, wipeZ, zFor, zSl, zPart, zNoPart, zAppend, zLstR1, zLstR2, zCallBC, zCallBF,
  at0, at1, at2, at3, at4, ix2_3, ix0_3, isNon_int, isNon_non, Bool.not_true, Bool.not_false,
  List.map_cons, List.map_nil, List.length_cons, List.length_nil, List.replicate_succ, List.replicate_zero, List.append_nil, List.nil_append, List.cons_append, List.getElem?_cons_zero, List.getElem?_cons_succ, List.set_cons_zero, List.set_cons_succ,
  Option.some.injEq, D.int.injEq, D.bl.injEq, D.tup.injEq, D.lst.injEq, D.str.injEq, D.cell.injEq, O.lst.injEq, reduceCtorEq, exists_eq_left', exists_eq_left, false_and, and_false, true_and, and_true, exists_false, or_false, false_or, exists_and_left, exists_eq', exists_and_right, List.cons.injEq, and_assoc, dec_not, dec_yes, nd_t, nd_f, t_t, t_f, f_t, f_f, true_implies, false_implies, implies_true, and_self, Nat.reduceAdd, Nat.reduceLeDiff, Nat.reduceSub, Nat.reduceLT])
local macro_rules | `(tactic| walk_at "zy") => `(tactic| try simp only [Option.some.injEq, D.int.injEq, D.bl.injEq, D.tup.injEq, D.lst.injEq, D.str.injEq, D.cell.injEq, O.lst.injEq, reduceCtorEq, exists_eq_left', exists_eq_left, false_and, and_false, true_and, and_true, exists_false, or_false, false_or, exists_and_left, exists_eq', exists_and_right, List.cons.injEq, and_assoc, dec_not, dec_yes, nd_t, nd_f, t_t, t_f, f_t, f_f, true_implies, false_implies, implies_true, and_self])
theorem pigeon : ∀ (w t : Nat) (f : Nat → Nat), (∀ i, i ≤ t → f i < w) → (∀ i j, i < j → j ≤ t → f i ≠ f j) → t < w
  | 0, t, f, h, _ => absurd (h 0 (Nat.zero_le _)) (Nat.not_lt_zero _)
  | w + 1, t, f, h, hd => by
    by_cases q : ∃ i, i ≤ t ∧ f i = w
    · obtain ⟨i0, h1, h2⟩ := q
      by_cases t0 : t = 0
      · omega
      · have := pigeon w (t - 1) (fun i => if i < i0 then f i else f (i + 1)) (fun i hi => by
          show (if i < i0 then f i else f (i + 1)) < w
          split
          · have a := h i (by omega)
            have b := hd i i0 (by omega) h1
            omega
          · have a := h (i + 1) (by omega)
            have b := hd i0 (i + 1) (by omega) (by omega)
            omega) (fun i j hij hj => by
          show (if i < i0 then f i else f (i + 1)) ≠ (if j < i0 then f j else f (j + 1))
          split
          · split
            · exact hd i j hij (by omega)
            · exact hd i (j + 1) (by omega) (by omega)
          · rw [if_neg (by omega)]
            exact hd (i + 1) (j + 1) (by omega) (by omega))
        omega
    · have := pigeon w t f (fun i hi => by
        have a := h i hi
        by_cases e : f i = w
        · exact absurd ⟨i, hi, e⟩ q
        · omega) hd
      omega
section
variable {K : PySem.W.Frag} {C : CI} {Δ Δ' : Store} {P : D → Store → Prop} {c : List Int} {room : Int} {amount : Nat} {x : D}
theorem init_lines (F : Kf K C) {rows : List Row} {gap whole : Int} {times : Nat} (hc : c = rows.map fun r => ownI r + gap) (ham : amount = rows.length * times) (hro : room = whole + gap) (H : Cst c room amount) (ht : (times : Int) ≤ 10 ^ 30)
    (p : ∀ T a, a < T → T ≤ 41 → st (lenf c room amount) c.length T % c.length = st (lenf c room amount) c.length a % c.length → P .non (Δ ++ [.ins 1 (fsL c room amount (Δ.length + 1) (.int (a : Int))), .lst (isD (stD c room amount T))])) :
    W_Lines_d_init_d K C [.cell Δ.length, .lst (rows.map boxD), .int gap, .int (times : Int), .int whole] (Δ ++ [.ins 1 []]) P := by
  have hl : c.length = rows.length := by rw [hc, List.length_map]
  have w1 := H.w1
  have w40 := H.w40
  unfold W_Lines_d_init_d z_Lines_d_init_d
  refine ⟨rfl, ?_⟩
  refine seq_cut fun rest hr => ?_
  simp only [zSetF]
  walk_at "zz"
  rw [List.length_map]
  refine ⟨_, last_at, by decide, ?_⟩
  rw [set_last]
  subst hr
  refine seq_cut fun rest hr => ?_
  simp only [zSetF]
  walk_at "zz"
  rw [List.length_map]
  refine ⟨.w 200 200 (by omega) (by omega), _, last_at, by show (1 : Nat) < 1000; decide, ?_⟩
  rw [set_last]
  subst hr
  refine seq_cut fun rest hr => ?_
  simp only [zSetF]
  walk_at "zz"
  refine comp_map (g := boxD) (f := fun r : Row => D.int (ownI r + gap)) rows [] (by simp; omega) (fun r hr Q q => ?_) ?_
  · unfold zProp
    walk_at "zz"
    exact ⟨.inl ⟨_, rfl⟩, ownB_ok F ⟨_, rfl, q⟩⟩
  have e1 : rows.map (fun r : Row => D.int (ownI r + gap)) = isD c := by rw [hc]; unfold isD; rw [List.map_map]; rfl
  rw [List.nil_append, e1]
  refine ⟨_, last_at, by show (2 : Nat) < 1000; decide, ?_⟩
  rw [set_last]
  subst hr
  refine seq_cut fun rest hr => ?_
  simp only [zSetF]
  walk_at "zz"
  refine ⟨_, last_at, by show (3 : Nat) < 1000; decide, ?_⟩
  rw [set_last, ← hro]
  subst hr
  refine seq_cut fun rest hr => ?_
  simp only [zSetF]
  walk_at "zz"
  have ea : ∀ a b : O, Δ ++ [a] ++ [b] = Δ ++ [a, b] := fun a b => by rw [List.append_assoc]; rfl
  have g1 : ∀ (o o' : O), (Δ ++ [o, o'])[Δ.length]? = some o := fun o o' => by rw [List.getElem?_append_right (Nat.le_refl _), Nat.sub_self]; rfl
  have set1 : ∀ (o o' x : O), (Δ ++ [o, o']).set Δ.length x = Δ ++ [x, o'] := fun o o' x => by
    rw [List.set_append_right _ _ (Nat.le_refl _), Nat.sub_self]
    rfl
  rw [ea]
  simp only [List.length_append, List.length_cons, List.length_nil]
  refine ⟨_, g1 _ _, by show (4 : Nat) < 1000; decide, ?_⟩
  rw [set1]
  subst hr
  refine seq_cut fun rest hr => ?_
  simp only [zSetF]
  walk_at "zz"
  refine ⟨_, g1 _ _, by show (5 : Nat) < 1000; decide, ?_⟩
  rw [set1]
  have em : ((rows.length : Int) * (times : Int)) = (amount : Int) := by rw [ham, Int.natCast_mul]
  rw [em, ← hl]
  subst hr
  show zWhile _ _ _ _ (Δ ++ [.ins 1 (fsL c room amount (Δ.length + 1) .non), .lst (isD (stD c room amount 0))])
  generalize hL : lenf c room amount = L at *
  refine ⟨fun m Γ E => ∃ t : Nat, Γ = [some (.cell Δ.length), some (.lst (rows.map boxD)), some (.int gap), some (.int (times : Int)), some (.int whole), none] ∧ ((m + t = 42 ∧ (∀ i j, i < j → j ≤ t → st L c.length i % c.length ≠ st L c.length j % c.length) ∧ E = Δ ++ [.ins 1 (fsL c room amount (Δ.length + 1) .non), .lst (isD (stD c room amount t))]) ∨
    ∃ a, a < t ∧ t ≤ 41 ∧ st L c.length t % c.length = st L c.length a % c.length ∧ E = Δ ++ [.ins 1 (fsL c room amount (Δ.length + 1) (.int (a : Int))), .lst (isD (stD c room amount t))]), ⟨42, 0, rfl, .inl ⟨rfl, fun i j h1 h2 => by omega, rfl⟩⟩, ?_⟩
  rintro m _ E ⟨t, rfl, ⟨hm, hd, rfl⟩ | ⟨a, ha, ht2, he, rfl⟩⟩
  · have htw := pigeon c.length t (fun i => st L c.length i % c.length) (fun i _ => Nat.mod_lt _ (by omega)) hd
    unfold zFld zMeth
    walk_at "zz"
    refine ⟨_, fsL_ag (g1 _ _), ?_⟩
    have nm : Str.ofString "add_line" ∉ nmsOf 1 := by decide
    refine ⟨fun _ => ⟨.inr ⟨_, _, rfl, g1 _ _, by rw [fsL_nms]; exact nm⟩, ?_⟩, fun q => nomatch q⟩
    refine add_ok F H (t := t) (by omega) (fun a ha he hno => ?_) fun hne => ?_
    · rw [hL] at he
      exact ⟨0, by omega, t + 1, .inr ⟨a, by omega, by omega, he, rfl⟩⟩
    · rw [hL] at hne
      refine ⟨m - 1, by omega, t + 1, .inl ⟨by omega, fun i j hij hj => ?_, rfl⟩⟩
      by_cases e : j = t + 1
      · rw [e]; exact fun q => hne i (by omega) q.symm
      · exact hd i j hij (by omega)
  · unfold zFld
    walk_at "zz"
    refine ⟨_, fsL_ag (g1 _ _), ?_⟩
    exact ⟨(fun q => nomatch q), fun _ => p t a ha ht2 he⟩
/-- what lines_of gives -/
structure Lnd (c : List Int) (room : Int) (amount T a : Nat) : Prop where
  at_ : a < T
  le : T ≤ 41
  again : st (lenf c room amount) c.length T % c.length = st (lenf c room amount) c.length a % c.length
def lnD (c : List Int) (room : Int) (amount T a : Nat) : D := linD c room amount (stD c room amount T) (.int (a : Int))
theorem lines_ok (F : Kf K C) {rows : List Row} {gap whole : Int} {times : Nat} (h1 : rows ≠ []) (h2 : rows.length ≤ 40) (hg : 0 ≤ gap) (hg2 : gap ≤ 10 ^ 30) (hw : 0 ≤ whole) (ht1 : 1 ≤ times) (ht : (times : Int) ≤ 10 ^ 30) (hc : c = rows.map fun r => ownI r + gap) (ham : amount = rows.length * times) (hro : room = whole + gap) (H : Cst c room amount)
    (p : ∀ T a, Lnd c room amount T a → P (lnD c room amount T a) Δ) : W_lines_of K C [.lst (rows.map boxD), .int gap, .int (times : Int), .int whole] Δ P := by
  have e30 : (1000000000000000000000000000000 : Int) = 10 ^ 30 := by decide
  unfold W_lines_of z_lines_of
  refine ⟨rfl, ?_⟩
  refine seq_cut fun rest hr => ?_
  walk_at "zz"
  unfold W_check_pattern z_check_pattern
  walk_at "zz"
  refine check_ok F h1 h2 ?_
  refine inb_ok hg (by rw [e30]; exact hg2) ?_
  walk_at "zz"
  refine inb_ok (by omega) (by rw [e30]; omega) ?_
  walk_at "zz"
  refine eq_ints ⟨_, rfl, fun h => ?_, fun _ => ?_⟩
  · have := beq_iff_eq.mp h
    omega
  subst hr
  refine seq_cut fun rest hr => ?_
  walk_at "zz"
  unfold W_check_whole z_check_whole
  walk_at "zz"
  refine is_int_ok ?_
  walk_at "zz"
  refine ⟨fun q => by omega, fun _ => ?_⟩
  subst hr
  unfold zMakeX
  walk_at "zz"
  refine init_lines F hc ham hro H ht fun T a ha hT he => ?_
  have g1 : ∀ (o o' : O), (Δ ++ [o, o'])[Δ.length]? = some o := fun o o' => by rw [List.getElem?_append_right (Nat.le_refl _), Nat.sub_self]; rfl
  have g2 : ∀ (o o' : O), (Δ ++ [o, o'])[Δ.length + 1]? = some o' := fun o o' => by rw [List.getElem?_append_right (by omega), show Δ.length + 1 - Δ.length = 1 by omega]; rfl
  have e := frx_lin (C := C) (E := Δ ++ [.ins 1 (fsL c room amount (Δ.length + 1) (.int (a : Int))), .lst (isD (stD c room amount T))]) F.nms (g1 _ _) (g2 _ _) (Nat.le_refl _) (Nat.le_succ _) (.inr ⟨_, rfl⟩)
  refine ⟨rfl, ⟨_, rfl⟩, ?_, ?_⟩
  · rw [e]
    exact lin_below (.inr ⟨_, rfl⟩)
  · rw [e]
    exact p T a ⟨ha, hT, he⟩
end
end Bx

namespace Bx
open PySem PySem.Spec PyProof.Rows L2 Z
local macro_rules | `(tactic| walk_at "zz") => `(tactic| simp only [zSeq, zAsg, zRet, zRetN, zIfS, zNext, zDrop, zPar, zPar3, zAug, zDivmod, zIndex, zCatT, zSlT, zMeth, zVar, zC, zOp, zUn, zNeg, zI0, zI, zTest, zAnd, zOr, zNot, zAndV, zOrV, zNotV, zIf, zNil, zCons, zTup, zLst, zLstC, zgName, zgTup, zgCons, zgNil, zgSub, startZ, zCall, zCB, zChain, zIsN, zNotN, zNever,
  zAddA, zMulA, zRepeat, zCat, zIx, seqD, lstD, zMax2, zMin2, zAbs, zLen, zSum, zGcd, zInt, zYes, zBreak, zCont, zMin1, zMax1, zList, zListC, zLcC, zLc, ziR1, ziR2, ziList, ziTup, ziZip, ziEnum, wipeZ, zFor, zSl, zPart, zNoPart, zAppend, zLstR1, zLstR2, zCallBC, zCallBF,
  at0, at1, at2, at3, at4, ix2_3, ix0_3, isNon_int, isNon_non, Bool.not_true, Bool.not_false,
  List.map_cons, List.map_nil, List.length_cons, List.length_nil, List.replicate_succ, List.replicate_zero, List.append_nil, List.nil_append, List.cons_append, List.getElem?_cons_zero, List.getElem?_cons_succ, List.set_cons_zero, List.set_cons_succ,
  Option.some.injEq, D.int.injEq, D.bl.injEq, D.tup.injEq, D.lst.injEq, D.str.injEq, D.cell.injEq, O.lst.injEq, reduceCtorEq, exists_eq_left', exists_eq_left, false_and, and_false, true_and, and_true, exists_false, or_false, false_or, exists_and_left, exists_eq', exists_and_right, List.cons.injEq, and_assoc, dec_not, dec_yes, nd_t, nd_f, t_t, t_f, f_t, f_f, true_implies, false_implies, implies_true, and_self, Nat.reduceAdd, Nat.reduceLeDiff, Nat.reduceSub, Nat.reduceLT])
local macro_rules | `(tactic| walk_at "zy") => `(tactic| try simp only [Option.some.injEq, D.int.injEq, D.bl.injEq, D.tup.injEq, D.lst.injEq, D.str.injEq, D.cell.injEq, O.lst.injEq, reduceCtorEq, exists_eq_left', exists_eq_left, false_and, and_false, true_and, and_true, exists_false, or_false, false_or, exists_and_left, exists_eq', exists_and_right, List.cons.injEq, and_assoc, dec_not, dec_yes, nd_t, nd_f, t_t, t_f, f_t, f_f, true_implies, false_implies, implies_true, and_self])
theorem lenf_le {c : List Int} {room : Int} {amount : Nat} (H : Cst c room amount) (p : Nat) : lenf c room amount p ≤ 10 ^ 72 := by
  have w40 := H.w40
  have r1 := H.r1
  have r0 := H.r0
  have a2 := H.a2
  unfold lenf
  split
  · omega
  · rename_i hz
    have hs : 0 < c.sum := by have := sum_nn0 H.h0; omega
    have m1 := Int.emod_nonneg room hz
    have m2 := Int.emod_lt_of_pos room hs
    have f := (fitL_ok (p := p) (r := room % c.sum) (by rw [cs_turn]; exact m2) c.length 0 m1 (by omega)).2.2
    have d1 : room / c.sum ≤ room := Int.ediv_le_self _ r0
    have d2 : (room / c.sum).toNat * c.length ≤ 10 ^ 70 * 40 := Nat.mul_le_mul (by omega) w40
    omega
theorem st_bd {L : Nat → Nat} {w B : Nat} (h : ∀ p, L p ≤ B) : ∀ i, st L w i ≤ i * B
  | 0 => by rw [Nat.zero_mul]; exact Nat.le_refl _
  | i + 1 => by
    have ih := st_bd (w := w) h i
    have := h (st L w i % w)
    rw [Nat.add_mul, Nat.one_mul]
    show st L w i + _ ≤ _
    omega
section
variable {K : PySem.W.Frag} {C : CI} {Δ Δ' : Store} {P : D → Store → Prop} {c : List Int} {room : Int} {amount T a : Nat} {x : D}
theorem ln_st (F : Kf K C) : fldD C Δ 1 (Str.ofString "starts") (lnD c room amount T a) = some (.lst (isD (stD c room amount T))) := lin_fld F.nms rfl
theorem ln_ag (F : Kf K C) : fldD C Δ 1 (Str.ofString "again") (lnD c room amount T a) = some (.int (a : Int)) := lin_fld F.nms rfl
theorem ln_F (F : Kf K C) : LnF C Δ (lnD c room amount T a) c room amount := lin_F F.nms
theorem ln_m (F : Kf K C) {m : Str} (h : m ∉ nmsOf 1) : insM C Δ 1 m (lnD c room amount T a) := .inl ⟨_, rfl, by rw [F.nms]; exact h⟩
theorem stD_len : (isD (stD c room amount T)).length = T + 1 := by rw [isD_len]; exact fl_len
theorem stD_get {i : Nat} (h : i ≤ T) : (isD (stD c room amount T))[i]? = some (.int (st (lenf c room amount) c.length i : Nat)) := ints_get (fl_get? (by omega))
/-- the turns behind the box b, and where it stands in the first one -/
theorem with_at {L : Nat → Nat} {w a T : Nat} (h1 : ∀ p, 1 ≤ L p) (hag : st L w T % w = st L w a % w) (hat : a < T) {b i : Nat} (hi : st L w i ≤ b) (hi2 : b < st L w (i + 1)) :
    ∃ tu k : Nat, tu = (b - st L w a) / (st L w T - st L w a) ∧ tu * (st L w T - st L w a) ≤ b ∧ k ≤ T ∧ st L w k ≤ b - tu * (st L w T - st L w a) ∧ b - tu * (st L w T - st L w a) < st L w (k + 1) ∧ i = tu * (T - a) + k := by
  have hlt := st_lt (L := L) (w := w) h1 hat
  by_cases h : b < st L w a
  · refine ⟨0, i, ?_, by omega, ?_, by omega, by omega, by omega⟩
    · rw [show b - st L w a = 0 by omega, Nat.zero_div]
    · by_cases q : i ≤ T
      · exact q
      · have := st_le (L := L) (w := w) h1 (show a ≤ i by omega)
        omega
  · have hm := Nat.mod_lt (b - st L w a) (show 0 < st L w T - st L w a by omega)
    have hd := Nat.div_add_mod (b - st L w a) (st L w T - st L w a)
    rw [Nat.mul_comm] at hd
    obtain ⟨tu, ht⟩ : ∃ tu, (b - st L w a) / (st L w T - st L w a) = tu := ⟨_, rfl⟩
    rw [ht] at hd
    obtain ⟨k, k1, k2⟩ := st_at (L := L) (w := w) h1 (b - tu * (st L w T - st L w a))
    have ka : a ≤ k := by
      by_cases q : a ≤ k
      · exact q
      · have := st_le (L := L) (w := w) h1 (show k + 1 ≤ a by omega)
        omega
    have kT : k < T := by
      by_cases q : k < T
      · exact q
      · have := st_le (L := L) (w := w) h1 (show T ≤ k by omega)
        omega
    refine ⟨tu, k, ht.symm, by omega, by omega, k1, k2, ?_⟩
    have s1 := st_turns hag (Nat.le_of_lt hat) h1 (k - a) tu
    have s2 := st_turns hag (Nat.le_of_lt hat) h1 (k - a + 1) tu
    rw [show a + (k - a) = k by omega, show a + (tu * (T - a) + (k - a)) = tu * (T - a) + k by omega] at s1
    rw [show a + (k - a + 1) = k + 1 by omega, show a + (tu * (T - a) + (k - a + 1)) = tu * (T - a) + k + 1 by omega] at s2
    exact st_one h1 hi hi2 (by omega) (by omega)
theorem count_to {S : Nat → Nat} {k : Nat} {r : Nat} : ∀ T : Nat, k ≤ T → (∀ j, j ≤ T → (S j ≤ r ↔ j ≤ k)) → ((fl (T + 1) fun i => (S i : Int)).filter fun x => decide (x ≤ (r : Int))).length = k + 1 := by
  have base : ∀ n, n ≤ k + 1 → (∀ j, j < n → (S j ≤ r ↔ j ≤ k)) → ((fl n fun i => (S i : Int)).filter fun x => decide (x ≤ (r : Int))).length = n := by
    intro n
    induction n with
    | zero => intro _ _; rfl
    | succ n ih =>
      intro hn h
      have := (h n (by omega)).mpr (by omega)
      unfold fl at ih ⊢
      rw [List.range_succ, List.map_append, List.filter_append, List.length_append, ih (by omega) fun j hj => h j (by omega)]
      show n + (List.filter (fun x => decide (x ≤ (r : Int))) [(S n : Int)]).length = n + 1
      rw [List.filter_cons, if_pos (decide_eq_true (by omega))]
      rfl
  intro T
  induction T with
  | zero =>
    intro h1 h2
    have e : k = 0 := by omega
    subst e
    exact base 1 (by omega) fun j hj => h2 j (by omega)
  | succ T ih =>
    intro h1 h2
    by_cases q : k = T + 1
    · subst q; exact base _ (Nat.le_refl _) fun j hj => h2 j (by omega)
    · have h3 := h2 (T + 1) (Nat.le_refl _)
      have ih := ih (by omega) fun j hj => h2 j (by omega)
      unfold fl at ih ⊢
      rw [List.range_succ, List.map_append, List.filter_append, List.length_append, ih]
      show k + 1 + (List.filter (fun x => decide (x ≤ (r : Int))) [(S (T + 1) : Int)]).length = k + 1
      have ng : ¬ decide ((S (T + 1) : Int) ≤ (r : Int)) = true := by
        rw [decide_eq_true_iff]
        intro q2
        have := h3.mp (by omega)
        omega
      rw [List.filter_cons, if_neg ng]
      rfl
theorem comp_fm {zg : ZG} {zt : ZT} {ze : ZE} {Γ0 : Z.Env} {P : D → Store → Prop} {Δ : Store} {α : Type} {g : α → D} {f : α → D} {p : α → Bool} : ∀ (xs : List α) (acc : List D), acc.length + xs.length ≤ 100000 →
    (∀ x ∈ xs, ∀ (Q1 : D → Store → Prop) (Q2 : Store → Prop), (p x = true → Q1 (f x) Δ) → (p x = false → Q2 Δ) → zg (g x) Γ0 Δ fun Γ2 Δ2 => zt Γ2 Δ2 fun b Δ3 => (b = true → ze Γ2 Δ3 Q1) ∧ (b = false → Q2 Δ3)) →
    P (.lst (acc ++ (xs.filter p).map f)) Δ → compZ zg zt ze Γ0 P (xs.map g) acc Δ
  | [], acc, _, _, h => by simpa [compZ] using h
  | x :: xs, acc, hl, hs, h => by
    have hl' : acc.length + (xs.length + 1) ≤ 100000 := by simpa using hl
    refine hs x List.mem_cons_self (fun y Δ4 => acc.length < 100000 ∧ compZ zg zt ze Γ0 P (xs.map g) (acc ++ [y]) Δ4) (fun Δ3 => compZ zg zt ze Γ0 P (xs.map g) acc Δ3) (fun hp => ⟨by omega, ?_⟩) fun hp => ?_
    · refine comp_fm xs (acc ++ [f x]) (by simp; omega) (fun y hy => hs y (List.mem_cons_of_mem _ hy)) ?_
      rw [List.filter_cons_of_pos hp, List.map_cons] at h
      simpa using h
    · refine comp_fm xs acc (by omega) (fun y hy => hs y (List.mem_cons_of_mem _ hy)) ?_
      rw [List.filter_cons_of_neg (by rw [hp]; simp)] at h
      exact h
theorem turn_ok (F : Kf K C) (H : Cst c room amount) (G : Lnd c room amount T a) (p : P (.tup [.int ((T - a : Nat) : Int), .int ((st (lenf c room amount) c.length T - st (lenf c room amount) c.length a : Nat) : Int)]) Δ) : W_Lines_turn K C [lnD c room amount T a] Δ P := by
  have h1 : ∀ p, 1 ≤ lenf c room amount p := fun p => (lenf_ok H.h0 H.r0 H.a1 p).one
  have hle := st_le (L := lenf c room amount) (w := c.length) h1 (Nat.le_of_lt G.at_)
  have hat := G.at_
  unfold W_Lines_turn z_Lines_turn zFld
  walk_at "zz"
  refine ⟨_, ln_st F, _, rfl, _, ln_ag F, _, rfl, ?_⟩
  have e1 : ((T + 1 : Nat) : Int) - 1 - (a : Int) = ((T - a : Nat) : Int) := by omega
  have e2 : ((st (lenf c room amount) c.length T : Nat) : Int) - ((st (lenf c room amount) c.length a : Nat) : Int) = ((st (lenf c room amount) c.length T - st (lenf c room amount) c.length a : Nat) : Int) := by omega
  refine ⟨_, ln_st F, _, rfl, _, atI_lastL stD_len (stD_get (Nat.le_refl _)), _, ln_st F, _, ln_ag F, _, _, rfl, rfl, _, atI_nat (stD_get (Nat.le_of_lt hat)), _, rfl, _, rfl, ?_⟩
  rw [stD_len, e1, e2]
  exact p
theorem begin_ok (F : Kf K C) (H : Cst c room amount) (G : Lnd c room amount T a) {i : Nat} (hib : i < 2 ^ 200) (p : P (.int (st (lenf c room amount) c.length i : Nat)) Δ) : W_Lines_begin K C [lnD c room amount T a, .int (i : Int)] Δ P := by
  have h1 : ∀ p, 1 ≤ lenf c room amount p := fun p => (lenf_ok H.h0 H.r0 H.a1 p).one
  have hat := G.at_
  unfold W_Lines_begin z_Lines_begin zFld zMeth
  refine ⟨rfl, ?_⟩
  refine seq_cut fun rest hr => ?_
  walk_at "zz"
  refine ⟨_, ln_st F, _, rfl, ?_⟩
  rw [stD_len]
  refine ⟨fun h => ⟨_, ln_st F, _, rfl, _, atI_nat (stD_get (by omega)), p⟩, fun h => ?_⟩
  subst hr
  refine seq_cut fun rest hr => ?_
  walk_at "zz"
  refine ⟨ln_m F (by decide), turn_ok F H G ?_⟩
  refine ⟨_, rfl, rfl, _, _, rfl, _, _, rfl, rfl, ?_⟩
  subst hr
  refine seq_cut fun rest hr => ?_
  walk_at "zz"
  have T41 := G.le
  have hge : T + 1 ≤ i := by omega
  have e1 : (i : Int) - (a : Int) = ((i - a : Nat) : Int) := by omega
  have e2 : (((i - a : Nat) : Int)) / (((T - a : Nat)) : Int) = (((i - a) / (T - a) : Nat) : Int) := by exact_mod_cast rfl
  have e3 : (((i - a : Nat) : Int)) % (((T - a : Nat)) : Int) = (((i - a) % (T - a) : Nat) : Int) := by exact_mod_cast rfl
  refine ⟨_, ln_ag F, _, rfl, ?_⟩
  refine ⟨divp (divk (by omega) (by omega)), ?_⟩
  rw [e1, e2, e3]
  subst hr
  walk_at "zz"
  have hr2 := Nat.mod_lt (i - a) (show 0 < T - a by omega)
  have hdm := Nat.div_add_mod (i - a) (T - a)
  have sT := st_bd (w := c.length) (lenf_le H) T
  have hT : T * 10 ^ 72 ≤ 41 * 10 ^ 72 := Nat.mul_le_mul_right _ T41
  have es := st_turns G.again (Nat.le_of_lt hat) h1 ((i - a) % (T - a)) ((i - a) / (T - a))
  have ei : a + ((i - a) / (T - a) * (T - a) + (i - a) % (T - a)) = i := by
    rw [Nat.mul_comm] at hdm
    omega
  rw [ei] at es
  have hq : (i - a) / (T - a) ≤ i := Nat.le_trans (Nat.div_le_self _ _) (Nat.sub_le _ _)
  refine ⟨_, ln_st F, _, ln_ag F, ?_⟩
  generalize (i - a) / (T - a) = Q at *
  generalize (i - a) % (T - a) = R at *
  have ec : (a : Int) + ((R : Nat) : Int) = ((a + R : Nat) : Int) := by omega
  refine ⟨_, rfl, _, rfl, ?_⟩
  rw [ec]
  generalize hB : st (lenf c room amount) c.length T - st (lenf c room amount) c.length a = B at *
  refine ⟨_, atI_nat (stD_get (by omega)), .w 300 300 (by omega) (by omega), _, rfl, ?_⟩
  have e5 : ((st (lenf c room amount) c.length (a + R) : Nat) : Int) + ((Q : Nat) : Int) * (B : Int) = ((st (lenf c room amount) c.length i : Nat) : Int) := by
    rw [es, ← Int.natCast_mul, ← Int.natCast_add]
  rw [e5]
  exact p
theorem with_ok (F : Kf K C) (H : Cst c room amount) (G : Lnd c room amount T a) {b i : Nat} (hi : st (lenf c room amount) c.length i ≤ b) (hi2 : b < st (lenf c room amount) c.length (i + 1)) (hb : b < 10 ^ 40) (p : P (.int (i : Nat)) Δ) : W_Lines_line_with K C [lnD c room amount T a, .int (b : Int)] Δ P := by
  have h1 : ∀ p, 1 ≤ lenf c room amount p := fun p => (lenf_ok H.h0 H.r0 H.a1 p).one
  have hat := G.at_
  unfold W_Lines_line_with z_Lines_line_with zFld zMeth
  refine ⟨rfl, ?_⟩
  refine seq_cut fun rest hr => ?_
  walk_at "zz"
  refine ⟨ln_m F (by decide), turn_ok F H G ?_⟩
  refine ⟨_, rfl, rfl, _, _, rfl, _, _, rfl, rfl, ?_⟩
  subst hr
  refine seq_cut fun rest hr => ?_
  walk_at "zz"
  have T41 := G.le
  have sT := st_bd (w := c.length) (lenf_le H) T
  have hT : T * 10 ^ 72 ≤ 41 * 10 ^ 72 := Nat.mul_le_mul_right _ T41
  have hlt := st_lt (L := lenf c room amount) (w := c.length) h1 hat
  obtain ⟨tu, k, ht, htb, kT, k1, k2, hik⟩ := with_at h1 G.again hat hi hi2
  refine ⟨_, ln_st F, _, ln_ag F, _, _, rfl, rfl, _, atI_nat (stD_get (Nat.le_of_lt hat)), _, rfl, divk (by omega) (by omega), ?_⟩
  generalize hB : st (lenf c room amount) c.length T - st (lenf c room amount) c.length a = B at *
  have B0 : 0 < B := by omega
  have et : (if ((b : Int) - ((st (lenf c room amount) c.length a : Nat) : Int)) / (B : Int) > 0 then ((b : Int) - ((st (lenf c room amount) c.length a : Nat) : Int)) / (B : Int) else 0) = (tu : Int) := by
    by_cases q : b < st (lenf c room amount) c.length a
    · have n := Int.ediv_neg_of_neg_of_pos (a := (b : Int) - ((st (lenf c room amount) c.length a : Nat) : Int)) (b := (B : Int)) (by omega) (by omega)
      rw [if_neg (by omega), ht, show b - st (lenf c room amount) c.length a = 0 by omega, Nat.zero_div]
      rfl
    · have e1 : (b : Int) - ((st (lenf c room amount) c.length a : Nat) : Int) = ((b - st (lenf c room amount) c.length a : Nat) : Int) := by omega
      have e2 : (((b - st (lenf c room amount) c.length a : Nat) : Int)) / (B : Int) = (tu : Int) := by rw [ht]; exact_mod_cast rfl
      rw [e1, e2]
      split <;> omega
  rw [et]
  subst hr
  refine seq_cut fun rest hr => ?_
  walk_at "zz"
  have htu : tu ≤ b := Nat.le_trans (Nat.le_mul_of_pos_right _ B0) htb
  refine ⟨.w 300 300 (by omega) (by omega), ?_⟩
  have er : (b : Int) - (tu : Int) * (B : Int) = ((b - tu * B : Nat) : Int) := by rw [← Int.natCast_mul]; omega
  rw [er]
  subst hr
  walk_at "zz"
  refine ⟨.r (by omega) (by omega), _, ln_st F, .inl ⟨_, rfl, ?_⟩⟩
  refine comp_fm (g := D.int) (f := D.int) (p := fun x => decide (x ≤ ((b - tu * B : Nat) : Int))) (stD c room amount T) [] (by unfold stD; rw [fl_len]; simp; omega) (fun x _ Q1 Q2 h1 h2 => ?_) ?_
  · walk_at "zz"
    exact ⟨fun q => h1 (decide_eq_true q), fun q => h2 (decide_eq_false q)⟩
  · rw [List.nil_append]
    refine ⟨_, rfl, ?_⟩
    have cnt := count_to (S := st (lenf c room amount) c.length) (k := k) (r := b - tu * B) T kT fun j hj => ⟨fun h => by
      by_cases q : j ≤ k
      · exact q
      · have := st_le (L := lenf c room amount) (w := c.length) h1 (show k + 1 ≤ j by omega)
        omega, fun h => by
      have := st_le (L := lenf c room amount) (w := c.length) h1 h
      omega⟩
    rw [List.length_map]
    unfold stD
    rw [cnt]
    have e9 : (tu : Int) * ((T - a : Nat) : Int) + ((k + 1 : Nat) : Int) - 1 = (i : Int) := by
      have e10 : (i : Int) = ((tu * (T - a) : Nat) : Int) + (k : Int) := by omega
      rw [e10, Int.natCast_mul]
      omega
    rw [e9]
    exact p
end
end Bx

namespace Bx
open PySem PySem.Spec PyProof.Rows L2 Z
local macro_rules | `(tactic| walk_at "zz") => `(tactic| simp only [zSeq, zAsg, zRet, zRetN, zIfS, zNext, zDrop, zPar, zPar3, zAug, zDivmod, zIndex, zCatT, zSlT, zMeth, zVar, zC, zOp, zUn, zNeg, zI0, zI, zTest, zAnd, zOr, zNot, zAndV, zOrV, zNotV, zIf, zNil, zCons, zTup, zLst, zLstC, zgName, zgTup, zgCons, zgNil, zgSub, startZ, zCall, zCB, zChain, zIsN, zNotN, zNever,
  zAddA, zMulA, zRepeat, zCat, zIx, seqD, lstD, zMax2, zMin2, zAbs, zLen, zSum, zGcd, zInt, zYes, zBreak, zCont, zMin1, zMax1, zList, zListC, zLcC, zLc, ziR1, ziR2, ziList, ziTup, ziZip, ziEnum, wipeZ, zFor, zSl, zPart, zNoPart, zAppend, zLstR1, zLstR2, zCallBC, zCallBF,
  at0, at1, at2, at3, at4, ix2_3, ix0_3, isNon_int, isNon_non, Bool.not_true, Bool.not_false,
  List.map_cons, List.map_nil, List.length_cons, List.length_nil, List.replicate_succ, List.replicate_zero, List.append_nil, List.nil_append, List.cons_append, List.getElem?_cons_zero, List.getElem?_cons_succ, List.set_cons_zero, List.set_cons_succ,
  Option.some.injEq, D.int.injEq, D.bl.injEq, D.tup.injEq, D.lst.injEq, D.str.injEq, D.cell.injEq, O.lst.injEq, reduceCtorEq, exists_eq_left', exists_eq_left, false_and, and_false, true_and, and_true, exists_false, or_false, false_or, exists_and_left, exists_eq', exists_and_right, List.cons.injEq, and_assoc, dec_not, dec_yes, nd_t, nd_f, t_t, t_f, f_t, f_f, true_implies, false_implies, implies_true, and_self, Nat.reduceAdd, Nat.reduceLeDiff, Nat.reduceSub, Nat.reduceLT])
local macro_rules | `(tactic| walk_at "zy") => `(tactic| try simp only [Option.some.injEq, D.int.injEq, D.bl.injEq, D.tup.injEq, D.lst.injEq, D.str.injEq, D.cell.injEq, O.lst.injEq, reduceCtorEq, exists_eq_left', exists_eq_left, false_and, and_false, true_and, and_true, exists_false, or_false, false_or, exists_and_left, exists_eq', exists_and_right, List.cons.injEq, and_assoc, dec_not, dec_yes, nd_t, nd_f, t_t, t_f, f_t, f_f, true_implies, false_implies, implies_true, and_self])
/-- what lines are asked of -/
structure Lw (rows : List Row) (gap : Int) (times : Nat) (whole : Int) (c : List Int) (room : Int) (amount : Nat) : Prop where
  h1 : rows ≠ []
  h2 : rows.length ≤ 40
  hg : 0 ≤ gap
  hg2 : gap ≤ 10 ^ 30
  hw : 0 ≤ whole
  t1 : 1 ≤ times
  t2 : (times : Int) ≤ 10 ^ 30
  hc : c = rows.map fun r => ownI r + gap
  ham : amount = rows.length * times
  hro : room = whole + gap
  H : Cst c room amount
  a3 : amount ≤ 10 ^ 33
section
variable {K : PySem.W.Frag} {C : CI} {Δ Δ' : Store} {P : D → Store → Prop} {rows : List Row} {gap whole : Int} {times : Nat} {c : List Int} {room : Int} {amount T a : Nat} {x : D}
theorem Lw.lines (W : Lw rows gap times whole c room amount) (F : Kf K C) (p : ∀ T a, Lnd c room amount T a → P (lnD c room amount T a) Δ) : W_lines_of K C [.lst (rows.map boxD), .int gap, .int (times : Int), .int whole] Δ P :=
  lines_ok F W.h1 W.h2 W.hg W.hg2 W.hw W.t1 W.t2 W.hc W.ham W.hro W.H p
theorem num_ok (F : Kf K C) (H : Cst c room amount) (a3 : amount ≤ 10 ^ 33) (G : Lnd c room amount T a) {N : Nat} (hN : st (lenf c room amount) c.length N < amount) (hN2 : amount ≤ st (lenf c room amount) c.length (N + 1)) (p : P (.int ((N : Int) + 1)) Δ) : W_Lines_number K C [lnD c room amount T a] Δ P := by
  have a1 := H.a1
  unfold W_Lines_number z_Lines_number zFld zMeth
  walk_at "zz"
  refine ⟨ln_m F (by decide), _, (ln_F F).amount, _, rfl, ?_⟩
  rw [show ((amount : Nat) : Int) - 1 = ((amount - 1 : Nat) : Int) by omega]
  refine with_ok F H G (i := N) (by omega) (by omega) (by omega) ⟨_, rfl, p⟩
theorem length_ok (F : Kf K C) (H : Cst c room amount) (G : Lnd c room amount T a) {i : Nat} (hib : i < 2 ^ 200) (hi : st (lenf c room amount) c.length i < amount) (p : P (.int ((min (lenf c room amount (st (lenf c room amount) c.length i % c.length)) (amount - st (lenf c room amount) c.length i) : Nat) : Int)) Δ) : W_Lines_length K C [lnD c room amount T a, .int (i : Int)] Δ P := by
  unfold W_Lines_length z_Lines_length zFld zMeth
  refine ⟨rfl, ?_⟩
  refine seq_cut fun rest hr => ?_
  walk_at "zz"
  refine ⟨ln_m F (by decide), begin_ok F H G hib ?_⟩
  subst hr
  walk_at "zz"
  refine ⟨ln_m F (by decide), _, (ln_F F).wide, _, rfl, by have := H.w1; omega, ?_⟩
  have em : ((st (lenf c room amount) c.length i : Nat) : Int) % (c.length : Int) = ((st (lenf c room amount) c.length i % c.length : Nat) : Int) := by exact_mod_cast rfl
  rw [em]
  refine len_ok H (ln_F F) (Nat.mod_lt _ (by have := H.w1; omega)) ?_
  refine ⟨_, (ln_F F).amount, _, rfl, _, rfl, ?_⟩
  have e : ((min (lenf c room amount (st (lenf c room amount) c.length i % c.length)) (amount - st (lenf c room amount) c.length i) : Nat) : Int) = if (amount : Int) - ((st (lenf c room amount) c.length i : Nat) : Int) < ((lenf c room amount (st (lenf c room amount) c.length i % c.length) : Nat) : Int) then (amount : Int) - ((st (lenf c room amount) c.length i : Nat) : Int) else ((lenf c room amount (st (lenf c room amount) c.length i % c.length) : Nat) : Int) := by
    generalize lenf c room amount (st (lenf c room amount) c.length i % c.length) = z
    split <;> omega
  rw [← e]
  exact p
theorem Lw.count (W : Lw rows gap times whole c room amount) (F : Kf K C) {N : Nat} (hN : st (lenf c room amount) c.length N < amount) (hN2 : amount ≤ st (lenf c room amount) c.length (N + 1)) (p : P (.int ((N : Int) + 1)) Δ) : W_count_lines K C [.lst (rows.map boxD), .int gap, .int (times : Int), .int whole] Δ P := by
  unfold W_count_lines z_count_lines zMeth
  walk_at "zz"
  refine W.lines F fun T a G => ⟨ln_m F (by decide), num_ok F W.H W.a3 G hN hN2 p⟩
theorem Lw.at_ (W : Lw rows gap times whole c room amount) (F : Kf K C) {i N : Nat} (hiN : i ≤ N) (hib : N < 2 ^ 200) (hN : st (lenf c room amount) c.length N < amount) (hN2 : amount ≤ st (lenf c room amount) c.length (N + 1)) (p : P (.tup [.int (st (lenf c room amount) c.length i : Nat), .int ((min (lenf c room amount (st (lenf c room amount) c.length i % c.length)) (amount - st (lenf c room amount) c.length i) : Nat) : Int)]) Δ) :
    W_line_at K C [.lst (rows.map boxD), .int gap, .int (times : Int), .int whole, .int (i : Int)] Δ P := by
  have h1 : ∀ p, 1 ≤ lenf c room amount p := fun p => (lenf_ok W.H.h0 W.H.r0 W.H.a1 p).one
  have hle := st_le (L := lenf c room amount) (w := c.length) h1 hiN
  unfold W_line_at z_line_at zMeth
  refine ⟨rfl, ?_⟩
  refine seq_cut fun rest hr => ?_
  walk_at "zz"
  refine W.lines F fun T a G => ?_
  subst hr
  refine seq_cut fun rest hr => ?_
  walk_at "zz"
  refine ⟨ln_m F (by decide), num_ok F W.H W.a3 G hN hN2 ?_⟩
  refine check_index_ok (by omega) (by omega) ?_
  subst hr
  walk_at "zz"
  refine ⟨ln_m F (by decide), begin_ok F W.H G (by omega) ?_⟩
  refine ⟨ln_m F (by decide), length_ok F W.H G (by omega) (by omega) ?_⟩
  exact p
theorem Lw.of_ (W : Lw rows gap times whole c room amount) (F : Kf K C) {b i : Nat} (hb : b < amount) (hi : st (lenf c room amount) c.length i ≤ b) (hi2 : b < st (lenf c room amount) c.length (i + 1)) (hib : i < 2 ^ 200) (p : P (.tup [.int (i : Int), .int ((b - st (lenf c room amount) c.length i : Nat) : Int)]) Δ) :
    W_line_of K C [.lst (rows.map boxD), .int gap, .int (times : Int), .int whole, .int (b : Int)] Δ P := by
  unfold W_line_of z_line_of zMeth zFld
  refine ⟨rfl, ?_⟩
  refine seq_cut fun rest hr => ?_
  walk_at "zz"
  refine W.lines F fun T a G => ?_
  subst hr
  refine seq_cut fun rest hr => ?_
  walk_at "zz"
  refine ⟨_, (ln_F F).amount, check_index_ok (by omega) (by omega) ?_⟩
  subst hr
  refine seq_cut fun rest hr => ?_
  walk_at "zz"
  have a3 := W.a3
  refine ⟨ln_m F (by decide), with_ok F W.H G hi hi2 (by omega) ?_⟩
  subst hr
  walk_at "zz"
  refine ⟨ln_m F (by decide), begin_ok F W.H G hib ⟨_, rfl, ?_⟩⟩
  have e : (b : Int) - ((st (lenf c room amount) c.length i : Nat) : Int) = ((b - st (lenf c room amount) c.length i : Nat) : Int) := by omega
  rw [e]
  exact p
end
end Bx

namespace Bx
open PySem PySem.Spec PyProof.Rows L2 Z
local macro_rules | `(tactic| walk_at "zz") => `(tactic| simp only [zSeq, zAsg, zRet, zRetN, zIfS, zNext, zDrop, zPar, zPar3, zAug, zDivmod, zIndex, zCatT, zSlT, zMeth, zVar, zC, zOp, zUn, zNeg, zI0, zI, zTest, zAnd, zOr, zNot, zAndV, zOrV, zNotV, zIf, zNil, zCons, zTup, zLst, zLstC, zgName, zgTup, zgCons, zgNil, zgSub, startZ, zCall, zCB, zChain, zIsN, zNotN, zNever,
  zAddA, zMulA, zRepeat, zCat, zIx, seqD, lstD, zMax2, zMin2, zAbs, zLen, zSum, zGcd, zInt, zYes, zBreak, zCont, zMin1, zMax1, zList, zListC, zLcC, zLc, ziR1, ziR2, ziList, ziTup, ziZip, ziEnum, wipeZ, zFor, zSl, zPart, zNoPart, zAppend, zLstR1, zLstR2, zCallBC, zCallBF,
  at0, at1, at2, at3, at4, ix2_3, ix0_3, isNon_int, isNon_non, Bool.not_true, Bool.not_false,
  List.map_cons, List.map_nil, List.length_cons, List.length_nil, List.replicate_succ, List.replicate_zero, List.append_nil, List.nil_append, List.cons_append, List.getElem?_cons_zero, List.getElem?_cons_succ, List.set_cons_zero, List.set_cons_succ,
  Option.some.injEq, D.int.injEq, D.bl.injEq, D.tup.injEq, D.lst.injEq, D.str.injEq, D.cell.injEq, O.lst.injEq, reduceCtorEq, exists_eq_left', exists_eq_left, false_and, and_false, true_and, and_true, exists_false, or_false, false_or, exists_and_left, exists_eq', exists_and_right, List.cons.injEq, and_assoc, dec_not, dec_yes, nd_t, nd_f, t_t, t_f, f_t, f_f, true_implies, false_implies, implies_true, and_self, Nat.reduceAdd, Nat.reduceLeDiff, Nat.reduceSub, Nat.reduceLT])
local macro_rules | `(tactic| walk_at "zy") => `(tactic| try simp only [Option.some.injEq, D.int.injEq, D.bl.injEq, D.tup.injEq, D.lst.injEq, D.str.injEq, D.cell.injEq, O.lst.injEq, reduceCtorEq, exists_eq_left', exists_eq_left, false_and, and_false, true_and, and_true, exists_false, or_false, false_or, exists_and_left, exists_eq', exists_and_right, List.cons.injEq, and_assoc, dec_not, dec_yes, nd_t, nd_f, t_t, t_f, f_t, f_f, true_implies, false_implies, implies_true, and_self])
theorem for_cut {zi : ZI} {g : ZG} {zs : ZS} {Ze : ZEnds} {Γ : Z.Env} {Δ : Store} (h : ∀ body : D → ZS, body = (fun x Z' Γ' Δ' => g x Γ' Δ' fun Γ2 Δ2 => zs Z' Γ2 Δ2) → zi Γ Δ fun items Δ1 => loopZ body Ze items Γ Δ1) : zFor zi g zs Ze Γ Δ := h _ rfl
end Bx

namespace Bx
open PySem PySem.Spec PyProof.Rows L2 Z
local macro_rules | `(tactic| walk_at "zz") => `(tactic| simp only [zSeq, zAsg, zRet, zRetN, zIfS, zNext, zDrop, zPar, zPar3, zAug, zDivmod, zIndex, zCatT, zSlT, zMeth, zVar, zC, zOp, zUn, zNeg, zI0, zI, zTest, zAnd, zOr, zNot, zAndV, zOrV, zNotV, zIf, zNil, zCons, zTup, zLst, zLstC, zgName, zgTup, zgCons, zgNil, zgSub, startZ, zCall, zCB, zChain, zIsN, zNotN, zNever,
  zAddA, zMulA, zRepeat, zCat, zIx, seqD, lstD, zMax2, zMin2, zAbs, zLen, zSum, zGcd, zInt, zYes, zBreak, zCont, zMin1, zMax1, zList, zListC, zLcC, zLc, ziR1, ziR2, ziList, ziTup, ziZip, ziEnum, wipeZ, zFor, zSl, zPart, zNoPart, zAppend, zLstR1, zLstR2, zCallBC, zCallBF,
  at0, at1, at2, at3, at4, ix2_3, ix0_3, isNon_int, isNon_non, Bool.not_true, Bool.not_false,
  List.map_cons, List.map_nil, List.length_cons, List.length_nil, List.replicate_succ, List.replicate_zero, List.append_nil, List.nil_append, List.cons_append, List.getElem?_cons_zero, List.getElem?_cons_succ, List.set_cons_zero, List.set_cons_succ,
  Option.some.injEq, D.int.injEq, D.bl.injEq, D.tup.injEq, D.lst.injEq, D.str.injEq, D.cell.injEq, O.lst.injEq, reduceCtorEq, exists_eq_left', exists_eq_left, false_and, and_false, true_and, and_true, exists_false, or_false, false_or, exists_and_left, exists_eq', exists_and_right, List.cons.injEq, and_assoc, dec_not, dec_yes, nd_t, nd_f, t_t, t_f, f_t, f_f, true_implies, false_implies, implies_true, and_self, Nat.reduceAdd, Nat.reduceLeDiff, Nat.reduceSub, Nat.reduceLT])
local macro_rules | `(tactic| walk_at "zy") => `(tactic| try simp only [Option.some.injEq, D.int.injEq, D.bl.injEq, D.tup.injEq, D.lst.injEq, D.str.injEq, D.cell.injEq, O.lst.injEq, reduceCtorEq, exists_eq_left', exists_eq_left, false_and, and_false, true_and, and_true, exists_false, or_false, false_or, exists_and_left, exists_eq', exists_and_right, List.cons.injEq, and_assoc, dec_not, dec_yes, nd_t, nd_f, t_t, t_f, f_t, f_f, true_implies, false_implies, implies_true, and_self])
theorem atM {l : List D} {i : Int} (h0 : 0 ≤ i) (h1 : i < l.length) : ∃ d, d ∈ l ∧ atI l i = some d := by
  obtain ⟨d, h, e⟩ := atN h0 h1
  exact ⟨d, List.mem_of_getElem? h, e⟩
section
variable {K : PySem.W.Frag} {C : CI} {Δ Δ' E : Store} {P : D → Store → Prop} {n : Nat} {c : Int}
theorem width_ok {most : Int} (hb : Fnt Δ n c) (hc : c ≤ 10 ^ 18) (m0 : 0 ≤ most) (m1 : most ≤ 10 ^ 30) (h : ∀ (x : Int) E, 0 ≤ x → x ≤ most → Fnt E n (c + 4) → Off n Δ E → P (.int x) E) : W__law_width K C [.cell n, .int most] Δ P := by
  unfold W__law_width z__law_width
  refine ⟨rfl, ?_⟩
  refine seq_cut fun rest hr => ?_
  walk_at "zz"
  refine sip_ok hb (by omega) (by decide) (sm (by decide) (by decide)) fun a1 E1 a10 a11 f1 o1 => ?_
  refine sip_ok f1 (by omega) (by omega) (sm (by omega) (by omega)) fun a2 E2 a20 a21 f2 o2 => ?_
  try walk_at "zz"
  refine sip_ok f2 (by omega) (by split <;> omega) (sm (by split <;> omega) (by split <;> omega)) fun a3 E3 a30 a31 f3 o3 => ?_
  try walk_at "zz"
  subst hr
  walk_at "zz"
  refine sip_ok f3 (by omega) (by decide) (sm (by decide) (by decide)) fun a4 E4 a40 a41 f4 o4 => ?_
  obtain ⟨d', hd, e⟩ := atM (l := [D.int a1, D.int a2, D.int a3, D.int most]) a40 a41
  obtain ⟨x, rfl, x0⟩ : ∃ x : Int, d' = .int x ∧ 0 ≤ x := by
    simp only [List.mem_cons, List.not_mem_nil, or_false] at hd
    rcases hd with rfl | rfl | rfl | rfl
    · exact ⟨_, rfl, a10⟩
    · exact ⟨_, rfl, a20⟩
    · exact ⟨_, rfl, a30⟩
    · exact ⟨_, rfl, m0⟩
  try walk_at "zz"
  refine ⟨_, e, _, rfl, ?_⟩
  exact h _ _ (by split <;> omega) (by split <;> omega) (f4.mono (by omega)) (((o1.trans o2).trans o3).trans o4)
theorem weight_ok {heavy : Int} (hb : Fnt Δ n c) (hc : c ≤ 10 ^ 18) (m0 : 4 ≤ heavy) (m1 : heavy ≤ 10 ^ 6) (h : ∀ (x : Int) E, 0 ≤ x → x ≤ 10 ^ 6 → Fnt E n (c + 3) → Off n Δ E → P (.int x) E) : W__law_weight K C [.cell n, .int heavy] Δ P := by
  unfold W__law_weight z__law_weight
  walk_at "zz"
  refine sip_ok hb (by omega) (by decide) (sm (by decide) (by decide)) fun a1 E1 a10 a11 f1 o1 => ?_
  try walk_at "zz"
  refine sip_ok f1 (by omega) (by omega) (sm (by omega) (by omega)) fun a2 E2 a20 a21 f2 o2 => ?_
  try walk_at "zz"
  refine sip_ok f2 (by omega) (by decide) (sm (by decide) (by decide)) fun a3 E3 a30 a31 f3 o3 => ?_
  obtain ⟨d', hd, e⟩ := atM (l := [D.int 0, D.int 1, D.int (1 + a1), D.int a2]) a30 a31
  obtain ⟨x, rfl, x0, x1⟩ : ∃ x : Int, d' = .int x ∧ 0 ≤ x ∧ x ≤ 10 ^ 6 := by
    simp only [List.mem_cons, List.not_mem_nil, or_false] at hd
    rcases hd with rfl | rfl | rfl | rfl
    · exact ⟨_, rfl, by decide, by decide⟩
    · exact ⟨_, rfl, by decide, by decide⟩
    · exact ⟨_, rfl, by omega, by omega⟩
    · exact ⟨_, rfl, by omega, by omega⟩
  try walk_at "zz"
  refine ⟨_, e, ?_⟩
  exact h _ _ x0 x1 (f3.mono (by omega)) ((o1.trans o2).trans o3)
end
end Bx

namespace Bx
open PySem PySem.Spec PyProof.Rows L2 Z
local macro_rules | `(tactic| walk_at "zz") => `(tactic| simp only [zSeq, zAsg, zRet, zRetN, zIfS, zNext, zDrop, zPar, zPar3, zAug, zDivmod, zIndex, zCatT, zSlT, zMeth, zVar, zC, zOp, zUn, zNeg, zI0, zI, zTest, zAnd, zOr, zNot, zAndV, zOrV, zNotV, zIf, zNil, zCons, zTup, zLst, zLstC, zgName, zgTup, zgCons, zgNil, zgSub, startZ, zCall, zCB, zChain, zIsN, zNotN, zNever,
  zAddA, zMulA, zRepeat, zCat, zIx, seqD, lstD, zMax2, zMin2, zAbs, zLen, zSum, zGcd, zInt, zYes, zBreak, zCont, zMin1, zMax1, zList, zListC, zLcC, zLc, ziR1, ziR2, ziList, ziTup, ziZip, ziEnum, wipeZ, zFor, zSl, zPart, zNoPart, zAppend, zLstR1, zLstR2, zCallBC, zCallBF,
  at0, at1, at2, at3, at4, ix2_3, ix0_3, isNon_int, isNon_non, Bool.not_true, Bool.not_false,
  List.map_cons, List.map_nil, List.length_cons, List.length_nil, List.replicate_succ, List.replicate_zero, List.append_nil, List.nil_append, List.cons_append, List.getElem?_cons_zero, List.getElem?_cons_succ, List.set_cons_zero, List.set_cons_succ,
  Option.some.injEq, D.int.injEq, D.bl.injEq, D.tup.injEq, D.lst.injEq, D.str.injEq, D.cell.injEq, O.lst.injEq, reduceCtorEq, exists_eq_left', exists_eq_left, false_and, and_false, true_and, and_true, exists_false, or_false, false_or, exists_and_left, exists_eq', exists_and_right, List.cons.injEq, and_assoc, dec_not, dec_yes, nd_t, nd_f, t_t, t_f, f_t, f_f, true_implies, false_implies, implies_true, and_self, Nat.reduceAdd, Nat.reduceLeDiff, Nat.reduceSub, Nat.reduceLT])
local macro_rules | `(tactic| walk_at "zy") => `(tactic| try simp only [Option.some.injEq, D.int.injEq, D.bl.injEq, D.tup.injEq, D.lst.injEq, D.str.injEq, D.cell.injEq, O.lst.injEq, reduceCtorEq, exists_eq_left', exists_eq_left, false_and, and_false, true_and, and_true, exists_false, or_false, false_or, exists_and_left, exists_eq', exists_and_right, List.cons.injEq, and_assoc, dec_not, dec_yes, nd_t, nd_f, t_t, t_f, f_t, f_f, true_implies, false_implies, implies_true, and_self])
section
variable {K : PySem.W.Frag} {C : CI} {Δ Δ' E : Store} {P : D → Store → Prop} {n : Nat} {c : Int}
theorem box_ok {most heavy : Int} (hb : Fnt Δ n c) (hc : c ≤ 10 ^ 17) (m0 : 0 ≤ most) (m1 : most ≤ 10 ^ 30) (w0 : 4 ≤ heavy) (w1 : heavy ≤ 10 ^ 6) (h : ∀ (r : Row) E, r.Ok → ownI r ≤ 10 ^ 30 → Fnt E n (c + 20) → Off n Δ E → P (rowD r) E) : W__law_box K C [.cell n, .int most, .int heavy] Δ P := by
  unfold W__law_box z__law_box
  refine ⟨rfl, ?_⟩
  refine seq_cut fun rest hr => ?_
  walk_at "zz"
  refine width_ok hb (by omega) m0 m1 fun x1 E1 x10 x11 f1 o1 => ?_
  try walk_at "zz"
  refine sip_ok f1 (by omega) (by decide) (sm (by decide) (by decide)) fun a2 E2 a20 a21 f2 o2 => ?_
  obtain ⟨d', hd, e⟩ := atM (l := [D.int 0, D.int x1]) a20 a21
  obtain ⟨l, rfl, l0, l1⟩ : ∃ l : Int, d' = .int l ∧ 0 ≤ l ∧ l ≤ most := by
    simp only [List.mem_cons, List.not_mem_nil, or_false] at hd
    rcases hd with rfl | rfl
    · exact ⟨_, rfl, by decide, m0⟩
    · exact ⟨_, rfl, x10, x11⟩
  try walk_at "zz"
  refine ⟨_, e, ?_⟩
  subst hr
  refine seq_cut fun rest hr => ?_
  walk_at "zz"
  refine sip_ok f2 (by omega) (by omega) (sm (by omega) (by omega)) fun a3 E3 a30 a31 f3 o3 => ?_
  try walk_at "zz"
  refine sip_ok f3 (by omega) (by decide) (sm (by decide) (by decide)) fun a4 E4 a40 a41 f4 o4 => ?_
  obtain ⟨d', hd, e⟩ := atM (l := [D.non, D.non, D.int l, D.int (l + a3)]) a40 a41
  obtain ⟨t, rfl, ht⟩ : ∃ t : Option Int, d' = optD t ∧ ∀ i, t = some i → l ≤ i ∧ i ≤ most := by
    simp only [List.mem_cons, List.not_mem_nil, or_false] at hd
    rcases hd with rfl | rfl | rfl | rfl
    · exact ⟨none, rfl, fun i q => nomatch q⟩
    · exact ⟨none, rfl, fun i q => nomatch q⟩
    · exact ⟨some l, rfl, fun i q => by cases q; omega⟩
    · exact ⟨some (l + a3), rfl, fun i q => by cases q; omega⟩
  try walk_at "zz"
  refine ⟨_, e, ?_⟩
  subst hr
  walk_at "zz"
  refine width_ok f4 (by omega) m0 m1 fun x5 E5 x50 x51 f5 o5 => ?_
  refine weight_ok f5 (by omega) w0 w1 fun g6 E6 g60 g61 f6 o6 => ?_
  refine weight_ok f6 (by omega) w0 w1 fun g7 E7 g70 g71 f7 o7 => ?_
  refine h ⟨x5, l, t, g6, g7⟩ E7 ⟨x50, by show x5 ≤ 10 ^ 30; omega, l0, by show l ≤ 10 ^ 30; omega, fun i hi => ⟨(ht i hi).1, by have := (ht i hi).2; omega⟩, g60, g61, g70, g71⟩ ?_ (f7.mono (by omega)) ((((((o1.trans o2).trans o3).trans o4).trans o5).trans o6).trans o7)
  show limO x5 l t ≤ 10 ^ 30
  unfold limO
  cases t with
  | none =>
    show (if x5 < l then l else x5) ≤ 10 ^ 30
    split <;> omega
  | some i =>
    have := ht i rfl
    show (if x5 < l then l else if i < x5 then i else x5) ≤ 10 ^ 30
    split
    · omega
    · split <;> omega
end
section
variable {K : PySem.W.Frag} {C : CI} {Δ Δ' E G : Store} {P : D → Store → Prop} {n : Nat} {c : Int}
theorem off_snoc {x : O} (o : Off n (E ++ [x]) G) (hn : n < E.length) : ∃ G', G = G' ++ [x] ∧ Off n E G' := by
  have hl := o.len
  rw [List.length_append, List.length_singleton] at hl
  refine ⟨G.take E.length, ?_, ?_⟩
  · apply List.ext_getElem?
    intro i
    by_cases h : i < E.length
    · rw [List.getElem?_append_left (by rw [List.length_take]; omega), List.getElem?_take, if_pos h]
    · rw [List.getElem?_append_right (by rw [List.length_take]; omega), List.length_take, Nat.min_eq_left (by omega)]
      by_cases h2 : i = E.length
      · subst h2
        rw [o.at_ _ (by omega), Nat.sub_self]
        exact last_at
      · rw [List.getElem?_eq_none (by omega), List.getElem?_eq_none (by simp; omega)]
  · refine ⟨by rw [List.length_take]; omega, fun m hm => ?_⟩
    rw [List.getElem?_take]
    by_cases h : m < E.length
    · rw [if_pos h, o.at_ m hm, List.getElem?_append_left h]
    · rw [if_neg h, List.getElem?_eq_none (by omega)]
theorem fnt_less {r : Store} (h : Fnt (E ++ r) n c) (hn : n < E.length) : Fnt E n c := by
  obtain ⟨x, y, z, e, h1⟩ := h
  rw [List.getElem?_append_left hn] at e
  exact ⟨x, y, z, e, h1⟩
theorem below_rows (m : Nat) : ∀ rows : List Row, Z.belowL m (rows.map rowD) = true
  | [] => rfl
  | r :: rows => by
    have e : Z.below m (rowD r) = true := by
      obtain ⟨w, l, t, g, s⟩ := r
      cases t <;> rfl
    show (Z.below m (rowD r) && Z.belowL m (rows.map rowD)) = true
    rw [e, below_rows m rows]
    rfl
theorem pattern_ok {many most : Int} (hb : Fnt Δ n c) (hc : c ≤ 10 ^ 16) (n1 : 1 ≤ many) (n2 : many ≤ 40) (m0 : 0 ≤ most) (m1 : most ≤ 10 ^ 30) (h : ∀ (rows : List Row) E, (rows.length : Int) = many → (∀ r ∈ rows, r.Ok ∧ ownI r ≤ 10 ^ 30) → Fnt E n (c + 2000) → Off n Δ E → P (.lst (rows.map rowD)) E) : frzM (W__law_pattern K C) [.cell n, .int many, .int most] Δ P := by
  have nl := hb.lt
  unfold frzM W__law_pattern z__law_pattern
  refine ⟨rfl, ?_⟩
  refine seq_cut fun rest hr => ?_
  walk_at "zz"
  subst hr
  refine seq_cut fun rest hr => ?_
  refine for_cut fun body hB => ?_
  walk_at "zz"
  refine ⟨by omega, by omega, ?_⟩
  refine loop_inv (fun i Γ F => ∃ (F' : Store) (rows : List Row) (u4 u5 : Option D), F = F' ++ [.lst (rows.map rowD)] ∧ F'.length = Δ.length ∧ Off n Δ F' ∧ Fnt F' n (c + 30 * i) ∧ rows.length = i ∧ (∀ r ∈ rows, r.Ok ∧ ownI r ≤ 10 ^ 30) ∧ Γ = [some (.cell n), some (.int many), some (.int most), some (.cell Δ.length), u4, u5]) _ 0 _ _ ⟨Δ, [], none, none, rfl, rfl, Off.refl _ _, hb.mono (by omega), rfl, (fun _ q => nomatch q), rfl⟩ ?_ ?_
  · rintro i x Γ F Ze hx ⟨F', rows, u4, u5, rfl, hl, ho, hf, hi, hrs, rfl⟩ hnx _ _ _
    rw [Nat.zero_add] at *
    have il : i < 40 := by
      have := (List.getElem?_eq_some_iff.mp hx).1
      rw [rangeD_len] at this
      omega
    have nF : n < F'.length := by omega
    subst hB
    simp only [zgName, List.set_cons_succ, List.set_cons_zero]
    refine seq_cut fun rest2 hr2 => ?_
    walk_at "zz"
    refine ⟨pow_ok (by decide) (by decide) (by decide), ?_⟩
    refine sip_ok (hf.app _) (by omega) (by decide) (sm (by decide) (by decide)) fun b1 H1 b10 b11 g1 o1 => ?_
    obtain ⟨J1, rfl, r1⟩ := off_snoc o1 nF
    have nJ1 : n < J1.length := by rw [r1.len]; exact nF
    obtain ⟨d', hd, e⟩ := atM (l := [D.int 4, D.int (10 ^ Int.toNat 6)]) b10 b11
    obtain ⟨heavy, rfl, w3, w4⟩ : ∃ heavy : Int, d' = .int heavy ∧ 4 ≤ heavy ∧ heavy ≤ 10 ^ 6 := by
      simp only [List.mem_cons, List.not_mem_nil, or_false] at hd
      rcases hd with rfl | rfl
      · exact ⟨_, rfl, by decide, by decide⟩
      · exact ⟨_, rfl, by decide, by decide⟩
    refine ⟨_, _, rfl, rfl, _, e, ?_⟩
    refine box_ok g1 (by omega) m0 m1 w3 w4 fun r H2 hr1 hr3 g2 o2 => ?_
    obtain ⟨J2, rfl, r2⟩ := off_snoc o2 nJ1
    have nJ2 : n < J2.length := by rw [r2.len]; exact nJ1
    have eJ : Δ.length = J2.length := by rw [r2.len, r1.len, hl]
    subst hr2
    rw [eJ]
    walk_at "zz"
    refine ⟨⟨_, last_at⟩, ?_⟩
    refine sip_ok g2 (by omega) (by decide) (sm (by decide) (by decide)) fun b3 H3 b30 b31 g3 o3 => ?_
    obtain ⟨J3, rfl, r3⟩ := off_snoc o3 nJ2
    have nJ3 : n < J3.length := by rw [r3.len]; exact nJ2
    have eJ3 : J2.length = J3.length := r3.len.symm
    rw [eJ3]
    have fin : ∀ r' : Row, r'.Ok → ownI r' ≤ 10 ^ 30 → ∃ x_2, (J3 ++ [O.lst (rows.map rowD)])[J3.length]? = some (O.lst x_2) ∧ x_2.length < 100000 ∧ Ze.nx [some (.cell n), some (.int many), some (.int most), some (.cell J3.length), some x, some (rowD r)] (List.set (J3 ++ [O.lst (rows.map rowD)]) J3.length (O.lst (x_2 ++ [rowD r']))) := fun r' h1 h2 => ⟨_, last_at, by rw [List.length_map]; omega, by
      rw [set_last]
      exact hnx _ _ ⟨J3, rows ++ [r'], _, _, by rw [List.map_append]; rfl, by omega, ho.trans (r1.trans (r2.trans r3)), (fnt_less g3 nJ3).mono (by omega), by simp [hi], fun q hq => by
        rcases List.mem_append.mp hq with hq | hq
        · exact hrs q hq
        · rw [List.mem_singleton.mp hq]; exact ⟨h1, h2⟩, by rw [eJ, eJ3]⟩⟩
    refine eq_ints ⟨_, rfl, fun _ => ?_, fun _ => fin r hr1 hr3⟩
    obtain ⟨rw_, rl, rm, rg, rs⟩ := r
    refine ⟨_, rfl, (show ¬ (HT.sIx 5 0 (some 2) = 0 ∧ HT.sIx 5 5 none = 5) by decide), by simp, by show ([optD rm, .int rg, .int rs] : List D) ≠ []; simp, by show (2 + 3 : Nat) ≤ 100000; decide, ?_⟩
    refine fin ⟨0, 0, rm, rg, rs⟩ ⟨by show (0 : Int) ≤ 0; decide, by show (0 : Int) ≤ 10 ^ 30; decide, by show (0 : Int) ≤ 0; decide, by show (0 : Int) ≤ 10 ^ 30; decide, fun i hi => ⟨Int.le_trans hr1.l0 (hr1.m0 i hi).1, (hr1.m0 i hi).2⟩, hr1.g0, hr1.g1, hr1.s0, hr1.s1⟩ ?_
    show limO 0 0 rm ≤ 10 ^ 30
    unfold limO
    cases rm with
    | none => decide
    | some i =>
      show (if (0 : Int) < 0 then 0 else if i < 0 then i else 0) ≤ 10 ^ 30
      split
      · omega
      · split <;> omega
  · rintro Γ F ⟨F', rows, u4, u5, rfl, hl, ho, hf, hi, hrs, rfl⟩
    rw [Nat.zero_add, rangeD_len] at *
    show rest _ _
    subst hr
    walk_at "zz"
    rw [← hl]
    refine ⟨_, F', rfl, rfl, rfl, fun m o hm => ?_, below_rows _ _, h rows F' (by omega) hrs (hf.mono (by omega)) ho⟩
    by_cases e : m = n
    · subst e
      obtain ⟨x, y, z, e, _⟩ := hf
      rw [e] at hm
      cases hm
      exact .inr rfl
    · rw [ho.at_ m e] at hm
      exact .inl hm
end
end Bx

namespace Bx
open PySem PySem.Spec PyProof.Rows L2 Z
local macro_rules | `(tactic| walk_at "zz") => `(tactic| simp only [zSeq, zAsg, zRet, zRetN, zIfS, zNext, zDrop, zPar, zPar3, zAug, zDivmod, zIndex, zCatT, zSlT, zMeth, zVar, zC, zOp, zUn, zNeg, zI0, zI, zTest, zAnd, zOr, zNot, zAndV, zOrV, zNotV, zIf, zNil, zCons, zTup, zLst, zLstC, zgName, zgTup, zgCons, zgNil, zgSub, startZ, zCall, zCB, zChain, zIsN, zNotN, zNever,
  zAddA, zMulA, zRepeat, zCat, zIx, seqD, lstD, zMax2, zMin2, zAbs, zLen, zSum, zGcd, zInt, zYes, zBreak, zCont, zMin1, zMax1, zList, zListC, zLcC, zLc, ziR1, ziR2, ziList, ziTup, ziZip, ziEnum, wipeZ, zFor, zSl, zPart, zNoPart, zAppend, zLstR1, zLstR2, zCallBC, zCallBF,
  at0, at1, at2, at3, at4, ix2_3, ix0_3, isNon_int, isNon_non, Bool.not_true, Bool.not_false,
  List.map_cons, List.map_nil, List.length_cons, List.length_nil, List.replicate_succ, List.replicate_zero, List.append_nil, List.nil_append, List.cons_append, List.getElem?_cons_zero, List.getElem?_cons_succ, List.set_cons_zero, List.set_cons_succ,
  Option.some.injEq, D.int.injEq, D.bl.injEq, D.tup.injEq, D.lst.injEq, D.str.injEq, D.cell.injEq, O.lst.injEq, reduceCtorEq, exists_eq_left', exists_eq_left, false_and, and_false, true_and, and_true, exists_false, or_false, false_or, exists_and_left, exists_eq', exists_and_right, List.cons.injEq, and_assoc, dec_not, dec_yes, nd_t, nd_f, t_t, t_f, f_t, f_f, true_implies, false_implies, implies_true, and_self, Nat.reduceAdd, Nat.reduceLeDiff, Nat.reduceSub, Nat.reduceLT])
local macro_rules | `(tactic| walk_at "zy") => `(tactic| try simp only [Option.some.injEq, D.int.injEq, D.bl.injEq, D.tup.injEq, D.lst.injEq, D.str.injEq, D.cell.injEq, O.lst.injEq, reduceCtorEq, exists_eq_left', exists_eq_left, false_and, and_false, true_and, and_true, exists_false, or_false, false_or, exists_and_left, exists_eq', exists_and_right, List.cons.injEq, and_assoc, dec_not, dec_yes, nd_t, nd_f, t_t, t_f, f_t, f_f, true_implies, false_implies, implies_true, and_self])
section
variable {K : PySem.W.Frag} {C : CI} {Δ Δ' E G : Store} {P : D → Store → Prop} {n : Nat} {c : Int}
theorem lawOwn_ok {r : Row} (h : r.Ok) (p : P (.int (ownI r)) Δ) : W__law_own K C [rowD r] Δ P := by
  obtain ⟨w, l, t, g, s⟩ := r
  unfold W__law_own z__law_own rowD
  walk_at "zz"
  unfold W__law_limit z__law_limit
  walk_at "zz"
  have p : P (.int (limO w l t)) Δ := p
  unfold limO at p
  cases t with
  | none =>
    simp only [optD]
    walk_at "zz"
    refine ⟨.r (by decide) (by decide), fun q => ?_, fun q => ?_⟩
    · rw [if_pos (by omega)] at p; exact p
    · rw [if_neg (by omega)] at p; exact p
  | some i =>
    simp only [optD]
    walk_at "zz"
    refine ⟨.r (by decide) (by decide), fun q => ?_, fun q => ⟨.r (by decide) (by decide), fun q2 => ?_, fun q2 => ?_⟩⟩
    · rw [if_pos (by omega)] at p; exact p
    · rw [if_neg (by omega)] at p
      have p : P (.int (if i < w then i else w)) Δ := p
      rw [if_pos (by omega)] at p; exact p
    · rw [if_neg (by omega)] at p
      have p : P (.int (if i < w then i else w)) Δ := p
      rw [if_neg (by omega)] at p; exact p
theorem rep_get {l : List Int} : ∀ (t k : Nat), k < t * l.length → (List.replicate t l).flatten.getD k 0 = l.getD (k % l.length) 0
  | 0, k, h => by omega
  | t + 1, k, h => by
    rw [List.replicate_succ, List.flatten_cons, getD_app]
    split
    · rename_i q
      rw [Nat.mod_eq_of_lt q]
    · rename_i q
      rw [rep_get t (k - l.length) (by rw [Nat.add_mul] at h; omega), ← Nat.mod_eq_sub_mod (by omega)]
theorem rep_len {l : List Int} : ∀ t : Nat, (List.replicate t l).flatten.length = t * l.length
  | 0 => by simp
  | t + 1 => by rw [List.replicate_succ, List.flatten_cons, List.length_append, rep_len t, Nat.add_mul]; omega
theorem rep_isD (l : List Int) (t : Nat) : (List.replicate t (isD l)).flatten = isD (List.replicate t l).flatten := by
  unfold isD
  rw [List.map_flatten, List.map_replicate]
theorem tx_p {a b : Int} (ha : a.natAbs < 2 ^ 500) (hb : b.natAbs < 2 ^ 500) : Showable (.tup [.int a, .int b]) := (tx_pair ha hb).show (by decide) (by decide)
end
end Bx

namespace Bx
open PySem PySem.Spec PyProof.Rows L2 Z
local macro_rules | `(tactic| walk_at "zz") => `(tactic| simp only [zSeq, zAsg, zRet, zRetN, zIfS, zNext, zDrop, zPar, zPar3, zAug, zDivmod, zIndex, zCatT, zSlT, zMeth, zVar, zC, zOp, zUn, zNeg, zI0, zI, zTest, zAnd, zOr, zNot, zAndV, zOrV, zNotV, zIf, zNil, zCons, zTup, zLst, zLstC, zgName, zgTup, zgCons, zgNil, zgSub, startZ, zCall, zCB, zChain, zIsN, zNotN, zNever,
  zAddA, zMulA, zRepeat, zCat, zIx, seqD, lstD, zMax2, zMin2, zAbs, zLen, zSum, zGcd, zInt, zYes, zBreak, zCont, zMin1, zMax1, zList, zListC, zLcC, zLc, ziR1, ziR2, ziList, ziTup, ziZip, ziEnum, wipeZ, zFor, zSl, zPart, zNoPart, zAppend, zLstR1, zLstR2, zCallBC, zCallBF,
  at0, at1, at2, at3, at4, ix2_3, ix0_3, isNon_int, isNon_non, Bool.not_true, Bool.not_false,
  List.map_cons, List.map_nil, List.length_cons, List.length_nil, List.replicate_succ, List.replicate_zero, List.append_nil, List.nil_append, List.cons_append, List.getElem?_cons_zero, List.getElem?_cons_succ, List.set_cons_zero, List.set_cons_succ,
  Option.some.injEq, D.int.injEq, D.bl.injEq, D.tup.injEq, D.lst.injEq, D.str.injEq, D.cell.injEq, O.lst.injEq, reduceCtorEq, exists_eq_left', exists_eq_left, false_and, and_false, true_and, and_true, exists_false, or_false, false_or, exists_and_left, exists_eq', exists_and_right, List.cons.injEq, and_assoc, dec_not, dec_yes, nd_t, nd_f, t_t, t_f, f_t, f_f, true_implies, false_implies, implies_true, and_self, Nat.reduceAdd, Nat.reduceLeDiff, Nat.reduceSub, Nat.reduceLT])
local macro_rules | `(tactic| walk_at "zy") => `(tactic| try simp only [Option.some.injEq, D.int.injEq, D.bl.injEq, D.tup.injEq, D.lst.injEq, D.str.injEq, D.cell.injEq, O.lst.injEq, reduceCtorEq, exists_eq_left', exists_eq_left, false_and, and_false, true_and, and_true, exists_false, or_false, false_or, exists_and_left, exists_eq', exists_and_right, List.cons.injEq, and_assoc, dec_not, dec_yes, nd_t, nd_f, t_t, t_f, f_t, f_f, true_implies, false_implies, implies_true, and_self])
section
variable {K : PySem.W.Frag} {C : CI} {Δ Δ' : Store} {P : D → Store → Prop}
theorem own_nn {r : Row} (h : r.Ok) : 0 ≤ ownI r := by
  have w0 := h.w0
  have l0 := h.l0
  have m0 := h.m0
  obtain ⟨w, l, t, g, s⟩ := r
  have w0 : 0 ≤ w := w0
  have l0 : 0 ≤ l := l0
  show 0 ≤ limO w l t
  unfold limO
  cases t with
  | none => show 0 ≤ (if w < l then l else w); split <;> omega
  | some i =>
    have : l ≤ i := (m0 i rfl).1
    show 0 ≤ (if w < l then l else if i < w then i else w)
    split
    · omega
    · split <;> omega
theorem own_le {r : Row} (h : r.Ok) : ownI r ≤ 10 ^ 30 := by
  have w1 := h.w1
  have l1 := h.l1
  have m0 := h.m0
  obtain ⟨w, l, t, g, s⟩ := r
  have w1 : w ≤ 10 ^ 30 := w1
  have l1 : l ≤ 10 ^ 30 := l1
  show limO w l t ≤ 10 ^ 30
  unfold limO
  cases t with
  | none => show (if w < l then l else w) ≤ 10 ^ 30; split <;> omega
  | some i =>
    have : i ≤ 10 ^ 30 := (m0 i rfl).2
    show (if w < l then l else if i < w then i else w) ≤ 10 ^ 30
    split
    · omega
    · split <;> omega
theorem sum_le {B : Int} : ∀ {l : List Int}, (∀ i ∈ l, 0 ≤ i ∧ i ≤ B) → 0 ≤ l.sum ∧ l.sum ≤ l.length * B
  | [], _ => ⟨Int.le_refl _, by simp⟩
  | x :: l, h => by
    have h1 := h x List.mem_cons_self
    obtain ⟨h2, h3⟩ := sum_le fun i hi => h i (List.mem_cons_of_mem _ hi)
    rw [List.sum_cons, List.length_cons, Int.natCast_add, Int.add_mul]
    constructor
    · omega
    · simp
      omega
theorem cut_ft {xs : List D} {p r : Nat} (h : p + r ≤ xs.length) : Z.cutD xs (some (p : Int)) (some ((p : Int) + (r : Int))) = (xs.drop p).take r := by
  unfold Z.cutD
  rw [show (p : Int) + (r : Int) = ((p + r : Nat) : Int) by omega, HT.sIx_nat, HT.sIx_nat, Nat.min_eq_left (by omega), Nat.min_eq_left (by omega), Nat.add_sub_cancel_left]
theorem cs_cut {w : List Int} {p : Nat} (hp : p < w.length) : ∀ r, r ≤ w.length → (((w ++ w).drop p).take r).sum = cs w p r
  | 0, _ => by simp [cs]
  | r + 1, h => by
    have hl : p + r < (w ++ w).length := by rw [List.length_append]; omega
    have e : (w ++ w)[p + r] = w.getD ((p + r) % w.length) 0 := by
      rw [List.getD_eq_getElem?_getD, List.getElem_append]
      split
      · rename_i q
        rw [Nat.mod_eq_of_lt q, List.getElem?_eq_getElem q]
        rfl
      · rename_i q
        have : (p + r) % w.length = p + r - w.length := by
          rw [Nat.mod_eq_sub_mod (by omega), Nat.mod_eq_of_lt (by omega)]
        simp only [this]
        rw [List.getElem?_eq_getElem (by omega)]
        rfl
    rw [List.take_succ, List.sum_append, cs_cut hp r (by omega), List.getElem?_drop, List.getElem?_eq_getElem hl, e]
    show _ + List.sum [_] = cs w p r + w.getD ((p + r) % w.length) 0
    simp
theorem cs_split {w : List Int} (p n : Nat) : cs w p n = ((n / w.length : Nat) : Int) * w.sum + cs w p (n % w.length) := by
  have e := Nat.div_add_mod n w.length
  rw [Nat.mul_comm] at e
  have a := cs_add (c := w) p (n / w.length * w.length) (n % w.length)
  rw [e, cs_turns] at a
  rw [a]
  congr 1
  exact cs_cong (by rw [Nat.add_mul_mod_self_right]) _
theorem cs_gap {rows : List Row} (hl : 0 < rows.length) {gap : Int} (p : Nat) : ∀ n : Nat, cs (rows.map fun r => ownI r + gap) p n = cs (rows.map ownI) p n + gap * (n : Int)
  | 0 => by simp [cs]
  | n + 1 => by
    have hm := Nat.mod_lt (p + n) hl
    have g : ∀ f : Row → Int, (rows.map f).getD ((p + n) % rows.length) 0 = f (rows[(p + n) % rows.length]'hm) := fun f => by
      rw [List.getD_eq_getElem?_getD, List.getElem?_map, List.getElem?_eq_getElem hm]
      rfl
    show cs _ p n + (rows.map fun r => ownI r + gap).getD ((p + n) % (rows.map fun r => ownI r + gap).length) 0 = cs (rows.map ownI) p n + (rows.map ownI).getD ((p + n) % (rows.map ownI).length) 0 + gap * ((n + 1 : Nat) : Int)
    rw [cs_gap hl p n, List.length_map, List.length_map, g, g, Int.natCast_add, Int.mul_add]
    simp
    omega
theorem isD_app (a b : List Int) : isD a ++ isD b = isD (a ++ b) := by unfold isD; rw [List.map_append]
theorem isD_cut (w : List Int) (p r : Nat) : ((isD w).drop p).take r = isD ((w.drop p).take r) := by unfold isD; rw [List.map_take, List.map_drop]
theorem lawSum_ok {w : List Int} {first many : Nat} (h1 : 1 ≤ w.length) (h40 : w.length ≤ 40) (s0 : 0 ≤ w.sum) (s1 : w.sum < 2 ^ 200) (hm : many < 2 ^ 300) (p : P (.int (cs w first many)) Δ) : W__law_sum K C [.lst (isD w), .int (first : Int), .int (many : Int)] Δ P := by
  have hfl := Nat.mod_lt first (show 0 < w.length by omega)
  have hml := Nat.mod_lt many (show 0 < w.length by omega)
  have hq : many / w.length ≤ many := Nat.div_le_self _ _
  rw [cs_split, cs_cong (show first % w.length = first % w.length % w.length by rw [Nat.mod_mod])] at p
  have e2 : ((many : Nat) : Int) / ((w.length : Nat) : Int) = ((many / w.length : Nat) : Int) := by exact_mod_cast rfl
  have e3 : ((many : Nat) : Int) % ((w.length : Nat) : Int) = ((many % w.length : Nat) : Int) := by exact_mod_cast rfl
  have e4 : ((first : Nat) : Int) % ((w.length : Nat) : Int) = ((first % w.length : Nat) : Int) := by exact_mod_cast rfl
  unfold W__law_sum z__law_sum
  refine ⟨rfl, ?_⟩
  refine seq_cut fun rest hr => ?_
  walk_at "zz"
  rw [isD_len, e2, e3]
  refine ⟨divk (by omega) (by omega), by omega, ?_⟩
  subst hr
  refine seq_cut fun rest hr => ?_
  walk_at "zz"
  rw [isD_len, e4]
  refine ⟨by omega, ?_⟩
  subst hr
  generalize first % w.length = f at *
  generalize many % w.length = m at *
  generalize many / w.length = q at *
  refine seq_cut fun rest hr => ?_
  walk_at "zz"
  have hc : Z.cutD (isD w ++ isD w) (some (f : Int)) (some ((f : Int) + (m : Int))) = isD (((w ++ w).drop f).take m) := by
    rw [isD_app, cut_ft (by rw [isD_len, List.length_append]; omega), isD_cut]
  refine ⟨by rw [isD_len]; omega, ?_⟩
  rw [hc]
  subst hr
  walk_at "zz"
  refine ⟨w, rfl, .w 300 200 (by omega) (by omega), _, rfl, ?_⟩
  rw [cs_cut (by omega) m (by omega)]
  exact p
end
end Bx

namespace Bx
open PySem PySem.Spec PyProof.Rows L2 Z
local macro_rules | `(tactic| walk_at "zz") => `(tactic| simp only [zSeq, zAsg, zRet, zRetN, zIfS, zNext, zDrop, zPar, zPar3, zAug, zDivmod, zIndex, zCatT, zSlT, zMeth, zVar, zC, zOp, zUn, zNeg, zI0, zI, zTest, zAnd, zOr, zNot, zAndV, zOrV, zNotV, zIf, zNil, zCons, zTup, zLst, zLstC, zgName, zgTup, zgCons, zgNil, zgSub, startZ, zCall, zCB, zChain, zIsN, zNotN, zNever,
  zAddA, zMulA, zRepeat, zCat, zIx, seqD, lstD, zMax2, zMin2, zAbs, zLen, zSum, zGcd, zInt, zYes, zBreak, zCont, zMin1, zMax1, zList, zListC, zLcC, zLc, ziR1, ziR2, ziList, ziTup, ziZip, ziEnum, wipeZ, zFor, zSl, zPart, zNoPart, zAppend, zLstR1, zLstR2, zCallBC, zCallBF,
  at0, at1, at2, at3, at4, ix2_3, ix0_3, isNon_int, isNon_non, Bool.not_true, Bool.not_false,
  List.map_cons, List.map_nil, List.length_cons, List.length_nil, List.replicate_succ, List.replicate_zero, List.append_nil, List.nil_append, List.cons_append, List.getElem?_cons_zero, List.getElem?_cons_succ, List.set_cons_zero, List.set_cons_succ,
  Option.some.injEq, D.int.injEq, D.bl.injEq, D.tup.injEq, D.lst.injEq, D.str.injEq, D.cell.injEq, O.lst.injEq, reduceCtorEq, exists_eq_left', exists_eq_left, false_and, and_false, true_and, and_true, exists_false, or_false, false_or, exists_and_left, exists_eq', exists_and_right, List.cons.injEq, and_assoc, dec_not, dec_yes, nd_t, nd_f, t_t, t_f, f_t, f_f, true_implies, false_implies, implies_true, and_self, Nat.reduceAdd, Nat.reduceLeDiff, Nat.reduceSub, Nat.reduceLT])
local macro_rules | `(tactic| walk_at "zy") => `(tactic| try simp only [Option.some.injEq, D.int.injEq, D.bl.injEq, D.tup.injEq, D.lst.injEq, D.str.injEq, D.cell.injEq, O.lst.injEq, reduceCtorEq, exists_eq_left', exists_eq_left, false_and, and_false, true_and, and_true, exists_false, or_false, false_or, exists_and_left, exists_eq', exists_and_right, List.cons.injEq, and_assoc, dec_not, dec_yes, nd_t, nd_f, t_t, t_f, f_t, f_f, true_implies, false_implies, implies_true, and_self])
section
variable {K : PySem.W.Frag} {C : CI} {Δ Δ' : Store} {P : D → Store → Prop} {rows : List Row} {gap whole : Int} {times : Nat} {c : List Int} {room : Int} {amount : Nat}
theorem st_ge {L : Nat → Nat} {w : Nat} (h1 : ∀ p, 1 ≤ L p) : ∀ j, j ≤ st L w j
  | 0 => Nat.zero_le _
  | j + 1 => by
    have := st_ge (w := w) h1 j
    have := h1 (st L w j % w)
    show j + 1 ≤ st L w j + _
    omega
/-- what a line is: it begins at f and has m boxes -/
structure LineR (rows : List Row) (gap whole : Int) (amount f m : Nat) : Prop where
  f1 : f < amount
  m1 : 1 ≤ m
  fm : f + m ≤ amount
  fit : 1 < m → cs (rows.map ownI) f m + gap * ((m : Int) - 1) ≤ whole
  full : f + m < amount → whole < cs (rows.map ownI) f (m + 1) + gap * (m : Int)
theorem Lw.line (W : Lw rows gap times whole c room amount) {i : Nat} (hi : st (lenf c room amount) c.length i < amount) :
    LineR rows gap whole amount (st (lenf c room amount) c.length i) (min (lenf c room amount (st (lenf c room amount) c.length i % c.length)) (amount - st (lenf c room amount) c.length i)) := by
  have H := W.H
  have LA := lenf_ok H.h0 H.r0 H.a1 (st (lenf c room amount) c.length i % c.length)
  have l0 := List.length_pos_iff.mpr W.h1
  have hro := W.hro
  generalize st (lenf c room amount) c.length i = f at *
  generalize lenf c room amount (f % c.length) = L at *
  have cg : ∀ n, cs c (f % c.length) n = cs c f n := fun n => cs_cong (Nat.mod_mod _ _) n
  have gp : ∀ n : Nat, cs c f n = cs (rows.map ownI) f n + gap * (n : Int) := fun n => by rw [W.hc]; exact cs_gap l0 f n
  have L1 := LA.one
  refine ⟨hi, by omega, by omega, fun h => ?_, fun h => ?_⟩
  · have a := LA.fits (by omega)
    have b := cs_mono H.h0 f (show min L (amount - f) ≤ L by omega)
    rw [cg] at a
    have g := gp (min L (amount - f))
    generalize min L (amount - f) = m at *
    have e : gap * ((m : Int) - 1) = gap * (m : Int) - gap := by rw [Int.mul_sub, Int.mul_one]
    omega
  · have em : min L (amount - f) = L := by omega
    have a := LA.full (by omega)
    rw [em, cg] at *
    have g := gp (L + 1)
    rw [Int.natCast_add, Int.mul_add] at g
    simp at g
    omega
theorem mul_bd {a b A B : Int} (a0 : 0 ≤ a) (b0 : 0 ≤ b) (ha : a ≤ A) (hb : b ≤ B) : 0 ≤ a * b ∧ a * b ≤ A * B := ⟨Int.mul_nonneg a0 b0, Int.mul_le_mul ha hb b0 (by omega)⟩
theorem lineR_ok (F : Kf K C) (W : Lw rows gap times whole c room amount) (hr : ∀ r ∈ rows, r.Ok) {i N : Nat} (hiN : i ≤ N) (hN : st (lenf c room amount) c.length N < amount) (hN2 : amount ≤ st (lenf c room amount) c.length (N + 1)) (p : P (.bl true) Δ) :
    W__law_line_right K C [.tup [.lst (rows.map boxD), .int gap, .int (times : Int)], .lst (isD (rows.map ownI)), .int gap, .int whole, .int (i : Int)] Δ P := by
  have H := W.H
  have h1 : ∀ p, 1 ≤ lenf c room amount p := fun p => (lenf_ok H.h0 H.r0 H.a1 p).one
  have l0 := List.length_pos_iff.mpr W.h1
  have l40 := W.h2
  have a3 := W.a3
  have hs := sum_le (l := rows.map ownI) (B := 10 ^ 30) fun x hx => by
    obtain ⟨r, h, rfl⟩ := List.mem_map.mp hx
    exact ⟨own_nn (hr r h), own_le (hr r h)⟩
  rw [List.length_map] at hs
  have hge := fun j => st_ge (w := c.length) h1 j
  have hgeN := hge N
  have si := st_le (w := c.length) h1 hiN
  have LR := W.line (i := i) (by omega)
  have sm1 : st (lenf c room amount) c.length (i + 1) = st (lenf c room amount) c.length i + lenf c room amount (st (lenf c room amount) c.length i % c.length) := rfl
  have hof : ∀ (pl : Nat) (Q : D → Store → Prop), pl < min (lenf c room amount (st (lenf c room amount) c.length i % c.length)) (amount - st (lenf c room amount) c.length i) → Q (.tup [.int (i : Int), .int (pl : Int)]) Δ → W_line_of K C [.lst (rows.map boxD), .int gap, .int (times : Int), .int whole, .int ((st (lenf c room amount) c.length i + pl : Nat) : Int)] Δ Q := fun pl Q hp q => by
    refine W.of_ F (i := i) (by omega) (by omega) (by omega) (by omega) ?_
    rw [Nat.add_sub_cancel_left]
    exact q
  have hz : (i = 0) ↔ st (lenf c room amount) c.length i = 0 := ⟨fun h => by rw [h]; rfl, fun h => by have := hge i; omega⟩
  have hpr : 0 < i → ∀ Q : D → Store → Prop, (∀ a b : Int, a + b = ((st (lenf c room amount) c.length i : Nat) : Int) → Q (.tup [.int a, .int b]) Δ) → W_line_at K C [.lst (rows.map boxD), .int gap, .int (times : Int), .int whole, .int ((i : Int) - 1)] Δ Q := fun h Q q => by
    rw [show (i : Int) - 1 = ((i - 1 : Nat) : Int) by omega]
    refine W.at_ F (i := i - 1) (N := N) (by omega) (by omega) hN hN2 (q _ _ ?_)
    have e : st (lenf c room amount) c.length i = st (lenf c room amount) c.length (i - 1) + lenf c room amount (st (lenf c room amount) c.length (i - 1) % c.length) := by
      conv => lhs; rw [show i = (i - 1) + 1 by omega]
      rfl
    omega
  have hat : ∀ Q : D → Store → Prop, Q (.tup [.int (st (lenf c room amount) c.length i : Nat), .int ((min (lenf c room amount (st (lenf c room amount) c.length i % c.length)) (amount - st (lenf c room amount) c.length i) : Nat) : Int)]) Δ → W_line_at K C [.lst (rows.map boxD), .int gap, .int (times : Int), .int whole, .int (i : Int)] Δ Q := fun Q q => W.at_ F hiN (by omega) hN hN2 q
  generalize st (lenf c room amount) c.length i = f at *
  generalize min (lenf c room amount (f % c.length)) (amount - f) = m at *
  obtain ⟨f1, m1, fm, fit, full⟩ := LR
  have hm33 : (m : Int) ≤ 10 ^ 33 := by omega
  have hgm := mul_bd W.hg (show (0 : Int) ≤ (m : Int) by omega) W.hg2 hm33
  have hg1 := mul_bd W.hg (show (0 : Int) ≤ (m : Int) - 1 by omega) W.hg2 (show (m : Int) - 1 ≤ 10 ^ 33 by omega)
  have t2 := W.t2
  have g0 := W.hg
  have g1 := W.hg2
  have wl : (rows.map ownI).length = rows.length := List.length_map _
  have ham : (rows.length : Int) * (times : Int) = (amount : Int) := by rw [W.ham, Int.natCast_mul]
  unfold W__law_line_right z__law_line_right
  refine ⟨rfl, ?_⟩
  refine seq_cut fun rest hr => ?_
  walk_at "zz"
  refine ⟨.w 10 200 (by rw [isD_len, wl]; omega) (by omega), ?_⟩
  rw [isD_len, wl, ham]
  subst hr
  refine seq_cut fun rest hr => ?_
  walk_at "zz"
  refine hat _ ⟨_, rfl, rfl, _, _, rfl, _, _, rfl, rfl, ?_⟩
  subst hr
  refine seq_cut fun rest hr => ?_
  walk_at "zz"
  refine ⟨fun h => by omega, fun _ => ⟨fun h => by omega, fun _ => eq_ints (eq_ints ?_)⟩⟩
  have ez : ((i : Int) == 0) = ((f : Int) == 0) := by
    rw [Bool.eq_iff_iff, beq_iff_eq, beq_iff_eq]; omega
  rw [ez]
  refine ne_sameD (z := .bl ((f : Int) == 0)) rfl rfl rfl ⟨_, rfl, (fun q => nomatch q), fun _ => ?_⟩
  subst hr
  refine seq_cut fun rest hr => ?_
  walk_at "zz"
  have step : rest [some (.tup [.lst (rows.map boxD), .int gap, .int (times : Int)]), some (.lst (isD (rows.map ownI))), some (.int gap), some (.int whole), some (.int (i : Int)), some (.int (amount : Int)), some (.int (f : Int)), some (.int (m : Int)), none] Δ := by
    subst hr
    refine seq_cut fun rest hr => ?_
    walk_at "zz"
    have step2 : rest [some (.tup [.lst (rows.map boxD), .int gap, .int (times : Int)]), some (.lst (isD (rows.map ownI))), some (.int gap), some (.int whole), some (.int (i : Int)), some (.int (amount : Int)), some (.int (f : Int)), some (.int (m : Int)), none] Δ := by
      subst hr
      refine seq_cut fun rest hr => ?_
      walk_at "zz"
      have step3 : rest [some (.tup [.lst (rows.map boxD), .int gap, .int (times : Int)]), some (.lst (isD (rows.map ownI))), some (.int gap), some (.int whole), some (.int (i : Int)), some (.int (amount : Int)), some (.int (f : Int)), some (.int (m : Int)), none] Δ := by
        subst hr
        refine seq_cut fun rest hr => ?_
        refine for_cut fun body hB => ?_
        walk_at "zz"
        refine ⟨divk (by omega) (by decide), ?_⟩
        refine loop_all (I := fun Γ E => E = Δ ∧ ∃ u8, Γ = [some (.tup [.lst (rows.map boxD), .int gap, .int (times : Int)]), some (.lst (isD (rows.map ownI))), some (.int gap), some (.int whole), some (.int (i : Int)), some (.int (amount : Int)), some (.int (f : Int)), some (.int (m : Int)), u8]) ⟨rfl, none, rfl⟩ (fun x Γ E Ze hx hI hn _ _ _ => ?_) (fun Γ E hI => ?_)
        · obtain ⟨rfl, u8, rfl⟩ := hI
          obtain ⟨pl, rfl, pl1⟩ : ∃ pl : Nat, x = .int (pl : Int) ∧ pl < m := by
            simp only [List.mem_cons, List.not_mem_nil, or_false] at hx
            rcases hx with rfl | rfl | rfl
            · exact ⟨0, rfl, by omega⟩
            · exact ⟨m - 1, by congr 1; omega, by omega⟩
            · exact ⟨m / 2, by congr 1, by omega⟩
          subst hB
          simp only [zgName, List.set_cons_succ, List.set_cons_zero]
          walk_at "zz"
          rw [show (f : Int) + (pl : Int) = ((f + pl : Nat) : Int) by omega]
          refine hof pl _ pl1 ?_
          refine ne_sameD (z := .tup [.int (i : Int), .int (pl : Int)]) rfl rfl rfl ⟨false, rfl, (fun q => nomatch q), fun _ => ?_⟩
          exact hn _ _ ⟨rfl, _, rfl⟩
        · obtain ⟨rfl, u8, rfl⟩ := hI
          show rest _ _
          subst hr
          walk_at "zz"
          exact p
      refine ⟨fun h => ?_, fun _ => step3⟩
      rw [show (m : Int) + 1 = ((m + 1 : Nat) : Int) by omega]
      refine lawSum_ok (by rw [wl]; omega) (by rw [wl]; omega) (by omega) (by omega) (by omega) ?_
      have := full (by omega)
      refine ⟨.w 110 300 (by omega) (by omega), _, rfl, fun q => by omega, fun _ => step3⟩
    refine ⟨fun h => ?_, fun _ => step2⟩
    refine lawSum_ok (by rw [wl]; omega) (by rw [wl]; omega) (by omega) (by omega) (by omega) ?_
    have := fit (by omega)
    refine ⟨.w 110 300 (by omega) (by omega), _, rfl, fun q => by omega, fun _ => step2⟩
  refine ⟨fun h => hpr (by omega) _ fun a b hab => ?_, fun _ => step⟩
  refine ⟨_, [a, b], rfl, rfl, ?_⟩
  refine ne_ints rfl rfl ⟨_, rfl, fun q => ?_, fun _ => step⟩
  exfalso
  simp at q
  omega
end
end Bx

namespace Bx
open PySem PySem.Spec PyProof.Rows L2 Z
local macro_rules | `(tactic| walk_at "zz") => `(tactic| simp only [zSeq, zAsg, zRet, zRetN, zIfS, zNext, zDrop, zPar, zPar3, zAug, zDivmod, zIndex, zCatT, zSlT, zMeth, zVar, zC, zOp, zUn, zNeg, zI0, zI, zTest, zAnd, zOr, zNot, zAndV, zOrV, zNotV, zIf, zNil, zCons, zTup, zLst, zLstC, zgName, zgTup, zgCons, zgNil, zgSub, startZ, zCall, zCB, zChain, zIsN, zNotN, zNever,
  zAddA, zMulA, zRepeat, zCat, zIx, seqD, lstD, zMax2, zMin2, zAbs, zLen, zSum, zGcd, zInt, zYes, zBreak, zCont, zMin1, zMax1, zList, zListC, zLcC, zLc, ziR1, ziR2, ziList, ziTup, ziZip, ziEnum, wipeZ, zFor, zSl, zPart, zNoPart, zAppend, zLstR1, zLstR2, zCallBC, zCallBF,
  at0, at1, at2, at3, at4, ix2_3, ix0_3, isNon_int, isNon_non, Bool.not_true, Bool.not_false,
  List.map_cons, List.map_nil, List.length_cons, List.length_nil, List.replicate_succ, List.replicate_zero, List.append_nil, List.nil_append, List.cons_append, List.getElem?_cons_zero, List.getElem?_cons_succ, List.set_cons_zero, List.set_cons_succ,
  Option.some.injEq, D.int.injEq, D.bl.injEq, D.tup.injEq, D.lst.injEq, D.str.injEq, D.cell.injEq, O.lst.injEq, reduceCtorEq, exists_eq_left', exists_eq_left, false_and, and_false, true_and, and_true, exists_false, or_false, false_or, exists_and_left, exists_eq', exists_and_right, List.cons.injEq, and_assoc, dec_not, dec_yes, nd_t, nd_f, t_t, t_f, f_t, f_f, true_implies, false_implies, implies_true, and_self, Nat.reduceAdd, Nat.reduceLeDiff, Nat.reduceSub, Nat.reduceLT])
local macro_rules | `(tactic| walk_at "zy") => `(tactic| try simp only [Option.some.injEq, D.int.injEq, D.bl.injEq, D.tup.injEq, D.lst.injEq, D.str.injEq, D.cell.injEq, O.lst.injEq, reduceCtorEq, exists_eq_left', exists_eq_left, false_and, and_false, true_and, and_true, exists_false, or_false, false_or, exists_and_left, exists_eq', exists_and_right, List.cons.injEq, and_assoc, dec_not, dec_yes, nd_t, nd_f, t_t, t_f, f_t, f_f, true_implies, false_implies, implies_true, and_self])
section
variable {K : PySem.W.Frag} {C : CI} {Δ Δ' E G : Store} {P : D → Store → Prop} {n : Nat} {c0 : Int}
theorem right_ok (F : Kf K C) {rows : List Row} {most : Int} (h1 : rows ≠ []) (h40 : rows.length ≤ 40) (hr : ∀ r ∈ rows, r.Ok) (mo0 : 0 ≤ most) (mo1 : most ≤ 10 ^ 30) (hb : Fnt Δ n c0) (hc : c0 ≤ 10 ^ 15) (p : ∀ E, Fnt E n (c0 + 100) → Off n Δ E → P (.bl true) E) : W__law_right K C [.cell n, .lst (rows.map rowD), .int most] Δ P := by
  have l0 := List.length_pos_iff.mpr h1
  have e30 : (10 : Int) ^ Int.toNat 30 = 10 ^ 30 := rfl
  unfold W__law_right z__law_right
  refine ⟨rfl, ?_⟩
  refine seq_cut fun rest hr' => ?_
  walk_at "zz"
  refine made_ok F (by omega) hr ?_
  refine sip_ok hb (by omega) (by decide) (sm (by decide) (by decide)) fun a1 E1 a10 a11 f1 o1 => ?_
  try walk_at "zz"
  refine sip_ok f1 (by omega) (by omega) (sm (by omega) (by omega)) fun a2 E2 a20 a21 f2 o2 => ?_
  try walk_at "zz"
  refine sip_ok f2 (by omega) (by decide) (sm (by decide) (by decide)) fun a3 E3 a30 a31 f3 o3 => ?_
  obtain ⟨d', hd, e⟩ := atM (l := [D.int 0, D.int a1, D.int a2]) a30 a31
  obtain ⟨gap, rfl, g0, g1⟩ : ∃ gap : Int, d' = .int gap ∧ 0 ≤ gap ∧ gap ≤ 10 ^ 30 := by
    simp only [List.mem_cons, List.not_mem_nil, or_false] at hd
    rcases hd with rfl | rfl | rfl
    · exact ⟨_, rfl, by decide, by decide⟩
    · exact ⟨_, rfl, a10, by omega⟩
    · exact ⟨_, rfl, a20, by omega⟩
  refine ⟨_, a3, rfl, rfl, _, e, ?_⟩
  subst hr'
  refine seq_cut fun rest hr' => ?_
  walk_at "zz"
  have p30 : CPow 10 30 := pow_ok (by decide) (by decide) (by decide)
  rw [e30]
  refine ⟨p30, p30, ?_⟩
  refine sip_ok f3 (by omega) (by decide) (sm (by decide) (by decide)) fun b1 E4 b10 b11 f4 o4 => ⟨_, rfl, ?_⟩
  refine sip_ok f4 (by omega) (by decide) (sm (by decide) (by decide)) fun b2 E5 b20 b21 f5 o5 => ⟨_, rfl, ?_⟩
  refine sip_ok f5 (by omega) (by decide) (sm (by decide) (by decide)) fun b3 E6 b30 b31 f6 o6 => ?_
  obtain ⟨d', hd, e⟩ := atM (l := [D.int (10 ^ 30), D.int (1 + b1), D.int (1 + b2)]) b30 b31
  obtain ⟨times, rfl, t1, t2⟩ : ∃ times : Nat, d' = .int (times : Int) ∧ 1 ≤ times ∧ (times : Int) ≤ 10 ^ 30 := by
    simp only [List.mem_cons, List.not_mem_nil, or_false] at hd
    rcases hd with rfl | rfl | rfl
    · exact ⟨10 ^ 30, rfl, by decide, by decide⟩
    · exact ⟨(1 + b1).toNat, by congr 1; omega, by omega, by omega⟩
    · exact ⟨(1 + b2).toNat, by congr 1; omega, by omega, by omega⟩
  refine ⟨_, b3, rfl, rfl, _, e, ?_⟩
  subst hr'
  refine seq_cut fun rest hr' => ?_
  walk_at "zz"
  refine comp_map (g := rowD) (f := fun r : Row => D.int (ownI r)) rows [] (by simp; omega) (fun r hr2 Q q => ?_) ?_
  · walk_at "zz"
    exact lawOwn_ok (hr r hr2) q
  have ew : rows.map (fun r : Row => D.int (ownI r)) = isD (rows.map ownI) := by unfold isD; rw [List.map_map]; rfl
  rw [List.nil_append, ew]
  have hmem : ∀ i ∈ rows.map ownI, 0 ≤ i ∧ i ≤ 10 ^ 30 := fun i hi => by
    obtain ⟨r, hr2, rfl⟩ := List.mem_map.mp hi
    exact ⟨own_nn (hr r hr2), own_le (hr r hr2)⟩
  have hs := sum_le hmem
  rw [List.length_map] at hs
  subst hr'
  refine seq_cut fun rest hr' => ?_
  walk_at "zz"
  refine ⟨rows.map ownI, rfl, .w 200 20 (by omega) (by rw [isD_len, List.length_map]; omega), ?_⟩
  rw [isD_len, List.length_map]
  have hgl := mul_bd g0 (show (0 : Int) ≤ (rows.length : Int) by omega) g1 (show (rows.length : Int) ≤ 40 by omega)
  obtain ⟨one, hone, on0, on1⟩ : ∃ one : Int, (rows.map ownI).sum + gap * (rows.length : Int) = one ∧ 0 ≤ one ∧ one ≤ 10 ^ 32 := ⟨_, rfl, by omega, by omega⟩
  rw [hone]
  subst hr'
  refine seq_cut fun rest hr' => ?_
  walk_at "zz"
  refine sip_ok f6 (by omega) (by omega) (sm (by omega) (by omega)) fun x1 E7 x10 x11 f7 o7 => ?_
  try walk_at "zz"
  refine ⟨rows.map ownI, rfl, (fun q => h1 (List.map_eq_nil_iff.mp q)), fun mx hx1 _ => ?_⟩
  have hmx := hmem mx hx1
  refine sip_ok f7 (by omega) (by decide) (sm (by decide) (by decide)) fun x2 E8 x20 x21 f8 o8 => ⟨_, rfl, .w 200 20 (by omega) (by omega), ?_⟩
  refine sip_ok f8 (by omega) (by omega) (sm (by omega) (by omega)) fun x3 E9 x30 x31 f9 o9 => ⟨_, rfl, ?_⟩
  have hy1 := mul_bd on0 x20 on1 (show x2 ≤ 9 by omega)
  obtain ⟨y1, hy, y10, y11⟩ : ∃ y1 : Int, one * x2 + x3 = y1 ∧ 0 ≤ y1 ∧ y1 ≤ 10 ^ 63 := ⟨_, rfl, by omega, by omega⟩
  rw [hy]
  subst hr'
  refine seq_cut fun rest hr' => ?_
  walk_at "zz"
  rw [e30]
  refine ⟨p30, ?_⟩
  refine sip_ok f9 (by omega) (by decide) (sm (by decide) (by decide)) fun x4 E10 x40 x41 f10 o10 => ?_
  try walk_at "zz"
  have hy2 := mul_bd on0 x40 on1 (show x4 ≤ 10 ^ 30 by omega)
  obtain ⟨y2, hye, y20, y21⟩ : ∃ y2 : Int, one * x4 = y2 ∧ 0 ≤ y2 ∧ y2 ≤ 10 ^ 63 := ⟨_, rfl, by omega, by omega⟩
  refine ⟨.w 200 200 (by omega) (by omega), ?_⟩
  rw [hye]
  subst hr'
  refine seq_cut fun rest hr' => ?_
  refine for_cut fun body hB => ?_
  walk_at "zz"
  refine ⟨by decide, by decide, ?_⟩
  refine loop_inv (fun i Γ E => ∃ (u9 u10 u11 u12 u13 u14 u15 : Option D), Fnt E n (c0 + 20 + 10 * i) ∧ Off n Δ E ∧ Γ = [some (.cell n), some (.lst (rows.map rowD)), some (.int most), some (.lst (rows.map boxD)), some (.int gap), some (.int (times : Int)), some (.lst (isD (rows.map ownI))), some (.int one), some (.lst [.int x1, .int mx, .int y1, .int y2, .int 0]), u9, u10, u11, u12, u13, u14, u15, none]) _ 0 _ _ ⟨none, none, none, none, none, none, none, f10.mono (by omega), (((((((((o1.trans o2).trans o3).trans o4).trans o5).trans o6).trans o7).trans o8).trans o9).trans o10), rfl⟩ ?_ ?_
  · rintro i x Γ E Ze hx ⟨u9, u10, u11, u12, u13, u14, u15, hf, hoff, rfl⟩ hnx _ _ _
    rw [Nat.zero_add] at *
    have il : i < 3 := by
      have := (List.getElem?_eq_some_iff.mp hx).1
      rw [rangeD_len] at this
      exact this
    subst hB
    simp only [zgName, List.set_cons_succ, List.set_cons_zero]
    refine seq_cut fun rest2 hr2 => ?_
    walk_at "zz"
    refine sip_ok hf (by omega) (by decide) (sm (by decide) (by decide)) fun b1 F1 b10 b11 g1' o1' => ?_
    obtain ⟨d', hd, e⟩ := atM (l := [D.int x1, D.int mx, D.int y1, D.int y2, D.int 0]) b10 b11
    obtain ⟨whole, rfl, w0, w1⟩ : ∃ whole : Int, d' = .int whole ∧ 0 ≤ whole ∧ whole ≤ 10 ^ 63 := by
      simp only [List.mem_cons, List.not_mem_nil, or_false] at hd
      rcases hd with rfl | rfl | rfl | rfl | rfl
      · exact ⟨_, rfl, by omega, by omega⟩
      · exact ⟨_, rfl, by omega, by omega⟩
      · exact ⟨_, rfl, by omega, by omega⟩
      · exact ⟨_, rfl, by omega, by omega⟩
      · exact ⟨_, rfl, by decide, by decide⟩
    refine ⟨_, b1, rfl, rfl, _, e, ?_⟩
    subst hr2
    refine seq_cut fun rest2 hr2 => ?_
    walk_at "zz"
    subst hr2
    obtain ⟨c, hcD⟩ : ∃ c, rows.map (fun r => ownI r + gap) = c := ⟨_, rfl⟩
    have cl : c.length = rows.length := by rw [← hcD, List.length_map]
    have cmem : ∀ i ∈ c, 0 ≤ i ∧ i ≤ 2 * 10 ^ 30 := fun i hi => by
      rw [← hcD] at hi
      obtain ⟨r, hr3, rfl⟩ := List.mem_map.mp hi
      have a := own_nn (hr r hr3)
      have b := own_le (hr r hr3)
      omega
    have cs' := sum_le cmem
    have am : rows.length * times ≤ 40 * 10 ^ 30 := Nat.mul_le_mul h40 (by omega)
    have am1 : 1 ≤ rows.length * times := Nat.mul_le_mul l0 t1
    have H : Cst c (whole + gap) (rows.length * times) := ⟨fun i hi => (cmem i hi).1, by omega, by omega, by omega, by omega, by omega, by omega, by omega⟩
    have W : Lw rows gap times whole c (whole + gap) (rows.length * times) := ⟨h1, by omega, g0, by omega, w0, t1, by omega, hcD.symm, rfl, rfl, H, by omega⟩
    have hL1 : ∀ p, 1 ≤ lenf c (whole + gap) (rows.length * times) p := fun p => (lenf_ok H.h0 H.r0 H.a1 p).one
    obtain ⟨N, hN, hN2⟩ := st_at (w := c.length) hL1 (rows.length * times - 1)
    have hN : st (lenf c (whole + gap) (rows.length * times)) c.length N < rows.length * times := by omega
    have hN2 : rows.length * times ≤ st (lenf c (whole + gap) (rows.length * times)) c.length (N + 1) := by omega
    have hge := fun j => st_ge (w := c.length) hL1 j
    have hgeN := hge N
    have ham : (rows.length : Int) * (times : Int) = ((rows.length * times : Nat) : Int) := by rw [Int.natCast_mul]
    refine seq_cut fun rest2 hr2 => ?_
    walk_at "zz"
    refine W.count F hN hN2 ?_
    subst hr2
    refine seq_cut fun rest2 hr2 => ?_
    walk_at "zz"
    rw [List.length_map, ham]
    refine ⟨.w 20 200 (by omega) (by omega), ?_⟩
    rw [show ((rows.length * times : Nat) : Int) - 1 = ((rows.length * times - 1 : Nat) : Int) by omega]
    refine W.of_ F (b := rows.length * times - 1) (i := N) (by omega) (by omega) (by omega) (by omega) ?_
    subst hr2
    refine seq_cut fun rest2 hr2 => ?_
    walk_at "zz"
    rw [show ((N : Nat) : Int) + 1 - 1 = ((N : Nat) : Int) by omega]
    refine W.at_ F (i := N) (N := N) (Nat.le_refl _) (by omega) hN hN2 ⟨_, [_, _], rfl, rfl, ?_⟩
    have eEnd : List.sum [((st (lenf c (whole + gap) (rows.length * times)) c.length N : Nat) : Int), ((min (lenf c (whole + gap) (rows.length * times) (st (lenf c (whole + gap) (rows.length * times)) c.length N % c.length)) (rows.length * times - st (lenf c (whole + gap) (rows.length * times)) c.length N) : Nat) : Int)] = ((rows.length * times : Nat) : Int) := by
      have sm1 : st (lenf c (whole + gap) (rows.length * times)) c.length (N + 1) = st (lenf c (whole + gap) (rows.length * times)) c.length N + lenf c (whole + gap) (rows.length * times) (st (lenf c (whole + gap) (rows.length * times)) c.length N % c.length) := rfl
      rw [sm1] at hN2
      generalize st (lenf c (whole + gap) (rows.length * times)) c.length N = f at *
      generalize lenf c (whole + gap) (rows.length * times) (f % c.length) = L at *
      rw [List.sum_cons, List.sum_cons, List.sum_nil]
      omega
    rw [eEnd]
    subst hr2
    refine seq_cut fun rest2 hr2 => ?_
    walk_at "zz"
    rw [List.length_map, ham, show ((N : Nat) : Int) + 1 - 1 = ((N : Nat) : Int) by omega]
    refine ne_sameD (z := .int (N : Int)) rfl rfl rfl ⟨false, rfl, (fun q => nomatch q), fun _ => ⟨.w 20 200 (by omega) (by omega), ?_⟩⟩
    refine ne_sameD (z := .int ((rows.length * times : Nat) : Int)) rfl rfl rfl ⟨false, rfl, (fun q => nomatch q), fun _ => ?_⟩
    subst hr2
    refine for_cut fun body hB => ?_
    walk_at "zz"
    refine sip_ok g1' (by omega) (by omega) (sm (by omega) (by omega)) fun z1 F2 z10 z11 g2' o2' => ?_
    try walk_at "zz"
    refine sip_ok g2' (by omega) (by decide) (sm (by decide) (by decide)) fun z2 F3 z20 z21 g3' o3' => ?_
    try walk_at "zz"
    refine loop_all (I := fun Γ E => Fnt E n (c0 + 30 + 10 * i) ∧ Off n Δ E ∧ ∃ u15, Γ = [some (.cell n), some (.lst (rows.map rowD)), some (.int most), some (.lst (rows.map boxD)), some (.int gap), some (.int (times : Int)), some (.lst (isD (rows.map ownI))), some (.int one), some (.lst [.int x1, .int mx, .int y1, .int y2, .int 0]), some x, some (.int whole), some (.tup [.lst (rows.map boxD), .int gap, .int (times : Int)]), some (.int ((N : Int) + 1)), some (.tup [.int (N : Int), .int ((rows.length * times - 1 - st (lenf c (whole + gap) (rows.length * times)) c.length N : Nat) : Int)]), some (.int ((rows.length * times : Nat) : Int)), u15, none]) ⟨g3'.mono (by omega), ((hoff.trans o1').trans o2').trans o3', _, rfl⟩ (fun z Γ E Ze4 hz hI hn4 _ _ _ => ?_) (fun Γ E hI => ?_)
    · obtain ⟨hE, hoE, u15, rfl⟩ := hI
      obtain ⟨pl, rfl, pl1⟩ : ∃ pl : Nat, z = .int (pl : Int) ∧ pl ≤ N := by
        simp only [List.mem_cons, List.not_mem_nil, or_false] at hz
        rcases hz with rfl | rfl | rfl | rfl
        · exact ⟨0, rfl, by omega⟩
        · exact ⟨N, by congr 1; omega, by omega⟩
        · exact ⟨z1.toNat, by congr 1; omega, by omega⟩
        · refine ⟨(if z2 < (N : Int) + 1 - 1 then z2 else (N : Int) + 1 - 1).toNat, ?_, ?_⟩
          · congr 1
            split <;> omega
          · split <;> omega
      subst hB
      simp only [zgName, List.set_cons_succ, List.set_cons_zero]
      walk_at "zz"
      refine lineR_ok F W hr pl1 hN hN2 ⟨true, rfl, (fun q => nomatch q), fun _ => ?_⟩
      exact hn4 _ _ ⟨hE, hoE, _, rfl⟩
    · obtain ⟨hE, hoE, u15, rfl⟩ := hI
      exact hnx _ _ ⟨_, _, _, _, _, _, _, hE.mono (by omega), hoE, rfl⟩
  · rintro Γ E ⟨u9, u10, u11, u12, u13, u14, u15, hf, hoff, rfl⟩
    show rest _ _
    subst hr'
    walk_at "zz"
    rw [Nat.zero_add, rangeD_len] at hf
    exact p E (hf.mono (by omega)) hoff
end
end Bx

namespace Bx
open PySem PySem.Spec PyProof.Rows L2 Z
local macro_rules | `(tactic| walk_at "zz") => `(tactic| simp only [zSeq, zAsg, zRet, zRetN, zIfS, zNext, zDrop, zPar, zPar3, zAug, zDivmod, zIndex, zCatT, zSlT, zMeth, zVar, zC, zOp, zUn, zNeg, zI0, zI, zTest, zAnd, zOr, zNot, zAndV, zOrV, zNotV, zIf, zNil, zCons, zTup, zLst, zLstC, zgName, zgTup, zgCons, zgNil, zgSub, startZ, zCall, zCB, zChain, zIsN, zNotN, zNever,
  zAddA, zMulA, zRepeat, zCat, zIx, seqD, lstD, zMax2, zMin2, zAbs, zLen, zSum, zGcd, zInt, zYes, zBreak, zCont, zMin1, zMax1, zList, zListC, zLcC, zLc, ziR1, ziR2, ziList, ziTup, ziZip, ziEnum, wipeZ, zFor, zSl, zPart, zNoPart, zAppend, zLstR1, zLstR2, zCallBC, zCallBF,
  at0, at1, at2, at3, at4, ix2_3, ix0_3, isNon_int, isNon_non, Bool.not_true, Bool.not_false,
  List.map_cons, List.map_nil, List.length_cons, List.length_nil, List.replicate_succ, List.replicate_zero, List.append_nil, List.nil_append, List.cons_append, List.getElem?_cons_zero, List.getElem?_cons_succ, List.set_cons_zero, List.set_cons_succ,
  Option.some.injEq, D.int.injEq, D.bl.injEq, D.tup.injEq, D.lst.injEq, D.str.injEq, D.cell.injEq, O.lst.injEq, reduceCtorEq, exists_eq_left', exists_eq_left, false_and, and_false, true_and, and_true, exists_false, or_false, false_or, exists_and_left, exists_eq', exists_and_right, List.cons.injEq, and_assoc, dec_not, dec_yes, nd_t, nd_f, t_t, t_f, f_t, f_f, true_implies, false_implies, implies_true, and_self, Nat.reduceAdd, Nat.reduceLeDiff, Nat.reduceSub, Nat.reduceLT])
local macro_rules | `(tactic| walk_at "zy") => `(tactic| try simp only [Option.some.injEq, D.int.injEq, D.bl.injEq, D.tup.injEq, D.lst.injEq, D.str.injEq, D.cell.injEq, O.lst.injEq, reduceCtorEq, exists_eq_left', exists_eq_left, false_and, and_false, true_and, and_true, exists_false, or_false, false_or, exists_and_left, exists_eq', exists_and_right, List.cons.injEq, and_assoc, dec_not, dec_yes, nd_t, nd_f, t_t, t_f, f_t, f_f, true_implies, false_implies, implies_true, and_self])
theorem forc_cut {z : ZE} {g : ZG} {zs : ZS} {Ze : ZEnds} {Γ : Z.Env} {Δ : Store} (h : ∀ body : D → ZS, body = (fun x Z' Γ' Δ' => g x Γ' Δ' fun Γ2 Δ2 => zs Z' Γ2 Δ2) → z Γ Δ fun d Δ1 => ∃ n ds, d = .cell n ∧ loopC n ds body Ze ds Γ Δ1) : zForC z g zs Ze Γ Δ := h _ rfl
/-- a loop over a cell that stays as it is, with a count -/
theorem loopC_inv {n N : Nat} {ds : List D} {body : D → ZS} {Ze : ZEnds} (I : Nat → Z.Env → Store → Prop) : ∀ (xs : List D) (i : Nat) (Γ : Z.Env) (Δ : Store), i + xs.length = N → I i Γ Δ → (∀ i Γ Δ, I i Γ Δ → Δ[n]? = some (.lst ds)) →
    (∀ i x Γ Δ (Z' : ZEnds), i < N → x ∈ xs → I i Γ Δ → (∀ Γ' Δ', I (i + 1) Γ' Δ' → Z'.nx Γ' Δ') → Z'.rt = Ze.rt → body x Z' Γ Δ) → (∀ Γ Δ, I N Γ Δ → Ze.nx Γ Δ) → loopC n ds body Ze xs Γ Δ
  | [], i, Γ, Δ, e, h, hat, _, he => ⟨hat i Γ Δ h, he Γ Δ (by rw [← e]; exact h)⟩
  | x :: xs, i, Γ, Δ, e, h, hat, hb, he => ⟨hat i Γ Δ h, hb i x Γ Δ _ (by rw [List.length_cons] at e; omega) List.mem_cons_self h (fun Γ' Δ' h' => loopC_inv I xs (i + 1) Γ' Δ' (by rw [List.length_cons] at e; omega) h' hat (fun j y Γ Δ Z' hj hy => hb j y Γ Δ Z' hj (List.mem_cons_of_mem _ hy)) he) rfl⟩
section
variable {K : PySem.W.Frag} {C : CI}
theorem law_ok (F : Kf K C) {ns : List Int} (hl : ns.length ≤ 63) : W_law K C [.scr ns] [] fun d _ => d = .bl true := by
  have e30 : (10 : Int) ^ Int.toNat 30 = 10 ^ 30 := rfl
  have p30 : CPow 10 30 := pow_ok (by decide) (by decide) (by decide)
  unfold W_law z_law
  refine ⟨rfl, ?_⟩
  refine seq_cut fun rest hr => ?_
  refine for_cut fun body hB => ?_
  walk_at "zz"
  rw [List.length_map]
  refine ⟨by split <;> split <;> omega, by split <;> split <;> omega, ?_⟩
  generalize hm : (if (if (ns.length : Int) < 6 then (ns.length : Int) else 6) > 1 then (if (ns.length : Int) < 6 then (ns.length : Int) else 6) else 1) = mm
  have m6 : mm ≤ 6 := by rw [← hm]; split <;> split <;> omega
  refine loop_all (I := fun Γ _ => ∃ u1 u2 u3 u4 u5, Γ = [some (.scr ns), u1, u2, u3, u4, u5, none]) ⟨_, _, _, _, _, rfl⟩ (fun x Γ Δ Ze hx hI hn _ _ _ => ?_) (fun Γ Δ hI => ?_)
  · obtain ⟨u1, u2, u3, u4, u5, rfl⟩ := hI
    obtain ⟨k, rfl, k0, k6⟩ : ∃ k : Int, x = .int k ∧ 0 ≤ k ∧ k < 6 := by
      unfold rangeD at hx
      obtain ⟨i, hi, rfl⟩ := List.mem_map.mp hx
      rw [List.mem_range] at hi
      exact ⟨_, rfl, by omega, by omega⟩
    subst hB
    simp only [zgName, List.set_cons_succ, List.set_cons_zero]
    refine seq_cut fun rest2 hr2 => ?_
    walk_at "zz"
    refine fount_ok k0 (by omega) fun Δ1 o e1 hf => ?_
    have hlen1 : Δ1.length = Δ.length + 1 := by rw [e1, List.length_append]; rfl
    generalize Δ.length = n at *
    subst hr2
    refine seq_cut fun rest2 hr2 => ?_
    walk_at "zz"
    rw [e30]
    refine sip_ok hf (by omega) (by decide) (sm (by decide) (by decide)) fun a1 E1 a10 a11 f1 o1 => ⟨_, rfl, p30, ?_⟩
    refine sip_ok f1 (by omega) (by decide) (sm (by decide) (by decide)) fun a2 E2 a20 a21 f2 o2 => ⟨_, rfl, ?_⟩
    subst hr2
    refine seq_cut fun rest2 hr2 => ?_
    walk_at "zz"
    have after : ∀ (L : List D) (E : Store) (m : Nat), m ≠ n → L.length ≤ 3 → (∀ y ∈ L, ∃ many most : Int, y = .tup [.int many, .int most] ∧ 1 ≤ many ∧ many ≤ 40 ∧ 0 ≤ most ∧ most ≤ 10 ^ 30) → Fnt E n 10 → E[m]? = some (.lst L) → rest2 [some (.scr ns), some (.int k), some (.cell n), some (.cell m), u4, u5, none] E := fun L E m hmn hL3 hL hE hm => by
      subst hr2
      refine forc_cut fun body hB => ?_
      walk_at "zz"
      refine ⟨L, loopC_inv (N := L.length) (fun i Γ E => E[m]? = some (.lst L) ∧ Fnt E n (10 + 2500 * i) ∧ ∃ u4 u5, Γ = [some (.scr ns), some (.int k), some (.cell n), some (.cell m), u4, u5, none]) L 0 _ _ (Nat.zero_add _) ⟨hm, hE.mono (by omega), _, _, rfl⟩ (fun _ _ _ h => h.1) (fun i y Γ E Ze2 hi hy hI hn2 hrt => ?_) (fun Γ E hI => ?_)⟩
      · obtain ⟨hm, hE, u4, u5, rfl⟩ := hI
        obtain ⟨many, most, rfl, m1, m2, s0, s1⟩ := hL y hy
        subst hB
        refine ⟨_, rfl, rfl, _, _, rfl, _, _, rfl, rfl, ?_⟩
        simp only [List.set_cons_succ, List.set_cons_zero]
        walk_at "zz"
        refine pattern_ok hE (by omega) m1 m2 s0 s1 fun rows E3 hrl hrs f3 o3 => ?_
        refine right_ok F (fun q => by rw [q] at hrl; simp at hrl; omega) (by omega) (fun r h => (hrs r h).1) s0 s1 f3 (by omega) fun E5 f5 o5 => ⟨true, rfl, (fun q => nomatch q), fun _ => ?_⟩
        exact hn2 _ _ ⟨by rw [o5.at_ _ hmn, o3.at_ _ hmn]; exact hm, f5.mono (by omega), _, _, rfl⟩
      · obtain ⟨hm, hE, u4, u5, rfl⟩ := hI
        exact hn _ _ ⟨_, _, _, _, _, rfl⟩
    have hE2 : E2.length = n + 1 := by rw [o2.len, o1.len, hlen1]
    have pr : ∀ y ∈ [D.tup [D.int (1 + a1), D.int (10 ^ 30)], D.tup [D.int (1 + a2), D.int 9]], ∃ many most : Int, y = .tup [.int many, .int most] ∧ 1 ≤ many ∧ many ≤ 40 ∧ 0 ≤ most ∧ most ≤ 10 ^ 30 := fun y hy => by
      simp only [List.mem_cons, List.not_mem_nil, or_false] at hy
      rcases hy with rfl | rfl
      · exact ⟨_, _, rfl, by omega, by omega, by decide, by decide⟩
      · exact ⟨_, _, rfl, by omega, by omega, by decide, by decide⟩
    refine eq_ints ⟨_, rfl, fun _ => ⟨⟨_, last_at⟩, _, last_at, by show (2 : Nat) < 100000; decide, ?_⟩, fun _ => ?_⟩
    · rw [set_last]
      refine after ([D.tup [D.int (1 + a1), D.int (10 ^ 30)], D.tup [D.int (1 + a2), D.int 9]] ++ [D.tup [D.int 40, D.int 20]]) _ _ (by omega) (Nat.le_refl 3) (fun y hy => ?_) ((f2.mono (by omega)).app _) last_at
      rcases List.mem_append.mp hy with hy | hy
      · exact pr y hy
      · rw [List.mem_singleton.mp hy]
        exact ⟨_, _, rfl, by decide, by decide, by decide, by decide⟩
    · exact after _ _ _ (by omega) (by show (2 : Nat) ≤ 3; decide) pr ((f2.mono (by omega)).app _) last_at
  · obtain ⟨u1, u2, u3, u4, u5, rfl⟩ := hI
    show rest _ _
    subst hr
    refine seq_cut fun rest hr => ?_
    walk_at "zz"
    have mk : ∀ (w : Int) (Γ : Z.Env) (Q : D → Store → Prop), 0 ≤ w → w ≤ 10 ^ 30 → Q (boxD ⟨w, 0, none, 0, 0⟩) Δ → zMakeF C 0 (W_Box_d_init_d K C) [D.int 0, D.non, D.int 0, D.int 0] (zCons (zC (D.int w)) zNil) Γ Δ Q := fun w Γ Q h0 h1 q => by
      unfold zMakeF
      walk_at "zz"
      refine init_ok (r := ⟨w, 0, none, 0, 0⟩) ⟨h0, h1, by show (0 : Int) ≤ 0; decide, by show (0 : Int) ≤ 10 ^ 30; decide, (fun i hi => nomatch hi), by show (0 : Int) ≤ 0; decide, by show (0 : Int) ≤ 10 ^ 6; decide, by show (0 : Int) ≤ 0; decide, by show (0 : Int) ≤ 10 ^ 6; decide⟩ ?_
      refine ⟨rfl, rowL ⟨w, 0, none, 0, 0⟩, by rw [F.nms], by rw [F.nms]; rfl, rfl, q⟩
    refine mk 3 _ _ (by decide) (by decide) (mk 4 _ _ (by decide) (by decide) (mk 2 _ _ (by decide) (by decide) ?_))
    subst hr
    walk_at "zz"
    rw [e30]
    have H1 : Cst [4, 5, 3] 11 (3 * 10 ^ 30) := ⟨by decide, by decide, by decide, by decide, by decide, by decide, by decide, by decide⟩
    have W1 : Lw [⟨3, 0, none, 0, 0⟩, ⟨4, 0, none, 0, 0⟩, ⟨2, 0, none, 0, 0⟩] 1 (10 ^ 30) 10 [4, 5, 3] 11 (3 * 10 ^ 30) := ⟨by simp, by decide, by decide, by decide, by decide, by decide, by decide, by decide, by decide, by decide, H1, by decide⟩
    have L2 : ∀ p, p < 3 → lenf [4, 5, 3] 11 (3 * 10 ^ 30) p = 2 := fun p hp => by
      have : p = 0 ∨ p = 1 ∨ p = 2 := by omega
      rcases this with rfl | rfl | rfl <;> decide
    have s2 : ∀ i, st (lenf [4, 5, 3] 11 (3 * 10 ^ 30)) 3 i = 2 * i := fun i => by
      induction i with
      | zero => rfl
      | succ i ih =>
        show st (lenf [4, 5, 3] 11 (3 * 10 ^ 30)) 3 i + lenf [4, 5, 3] 11 (3 * 10 ^ 30) (st (lenf [4, 5, 3] 11 (3 * 10 ^ 30)) 3 i % 3) = 2 * (i + 1)
        rw [L2 _ (Nat.mod_lt _ (by decide)), ih]
        omega
    have H0 : Cst [0] 0 (10 ^ 30) := ⟨by decide, by decide, by decide, by decide, by decide, by decide, by decide, by decide⟩
    have W0 : Lw [⟨0, 0, none, 0, 0⟩] 0 (10 ^ 30) 0 [0] 0 (10 ^ 30) := ⟨by simp, by decide, by decide, by decide, by decide, by decide, by decide, by decide, by decide, by decide, H0, by decide⟩
    have e29 : (10 : Int) ^ Int.toNat 29 = 10 ^ 29 := rfl
    rw [e29]
    refine ⟨p30, ?_⟩
    refine W1.count F (N := 15 * 10 ^ 29 - 1) (by show st _ 3 _ < _; rw [s2]; decide) (by show _ ≤ st _ 3 _; rw [s2]; decide) ?_
    refine ⟨pow_ok (by decide) (by decide) (by decide), .w 20 200 (by decide) (by decide), ?_⟩
    refine eq_ints ⟨_, rfl, fun _ => ?_, fun q => ?_⟩
    · refine mk 0 _ _ (by decide) (by decide) ⟨p30, ?_⟩
      refine W0.count F (N := 0) (by decide) (by decide) ?_
      exact eq_ints rfl
    · exact absurd q (by decide)
end
end Bx

namespace Bx
open PySem PySem.Spec PyProof.Rows L2 Z
/-! ### what the top has written -/
structure Ad where
  f__law_crib : Addr
  d__law_crib : FuncData
  f__law_pluck : Addr
  d__law_pluck : FuncData
  f_is_int : Addr
  d_is_int : FuncData
  f_in_bounds : Addr
  d_in_bounds : FuncData
  f_are_box_numbers : Addr
  d_are_box_numbers : FuncData
  f_Box_d_init_d : Addr
  d_Box_d_init_d : FuncData
  f__law_made : Addr
  d__law_made : FuncData
  f__law_limit : Addr
  d__law_limit : FuncData
  f__law_own : Addr
  d__law_own : FuncData
  f_Lines_turn : Addr
  d_Lines_turn : FuncData
  f_Lines_line_with : Addr
  d_Lines_line_with : FuncData
  f_Lines_number : Addr
  d_Lines_number : FuncData
  f_check_boxes : Addr
  d_check_boxes : FuncData
  f_check_pattern : Addr
  d_check_pattern : FuncData
  f_check_whole : Addr
  d_check_whole : FuncData
  f_limited : Addr
  d_limited : FuncData
  f_Box_own : Addr
  d_Box_own : FuncData
  f_boxes_that_fit : Addr
  d_boxes_that_fit : FuncData
  f_Lines_length_at : Addr
  d_Lines_length_at : FuncData
  f_Lines_add_line : Addr
  d_Lines_add_line : FuncData
  f_Lines_d_init_d : Addr
  d_Lines_d_init_d : FuncData
  f_lines_of : Addr
  d_lines_of : FuncData
  f_count_lines : Addr
  d_count_lines : FuncData
  f_check_index : Addr
  d_check_index : FuncData
  f_Lines_begin : Addr
  d_Lines_begin : FuncData
  f_line_of : Addr
  d_line_of : FuncData
  f_Lines_length : Addr
  d_Lines_length : FuncData
  f_line_at : Addr
  d_line_at : FuncData
  f__law_sum : Addr
  d__law_sum : FuncData
  f__law_line_right : Addr
  d__law_line_right : FuncData
  f__law_right : Addr
  d__law_right : FuncData
  f__law_width : Addr
  d__law_width : FuncData
  f__law_weight : Addr
  d__law_weight : FuncData
  f__law_box : Addr
  d__law_box : FuncData
  f__law_pattern : Addr
  d__law_pattern : FuncData
  f_law : Addr
  d_law : FuncData
  c_Box : Addr
  p_Box_wish : Addr
  p_Box_least : Addr
  p_Box_most : Addr
  p_Box_grow : Addr
  p_Box_shrink : Addr
  p_Box_own : Addr
  c_Lines : Addr
def adrOf (q : Ad) : Nat → Addr
  | 0 => q.c_Box
  | 1 => q.c_Lines
  | _ => 0
abbrev CIof (q : Ad) : CI := ⟨adrOf q, nmsOf⟩
structure Tx (K : PySem.W.Frag) (mg : Str → Option Value) (q : Ad) : Prop where
  F__law_crib : Fun K "_law_crib" "_law_crib" s__law_crib q.f__law_crib q.d__law_crib
  b__law_crib : Binds K q.d__law_crib ["script", "k"] []
  m__law_crib : mg "_law_crib" = some (.ref q.f__law_crib)
  F__law_pluck : Fun K "_law_pluck" "_law_pluck" s__law_pluck q.f__law_pluck q.d__law_pluck
  b__law_pluck : Binds K q.d__law_pluck ["crib", "many"] []
  m__law_pluck : mg "_law_pluck" = some (.ref q.f__law_pluck)
  F_is_int : Fun K "is_int" "is_int" s_is_int q.f_is_int q.d_is_int
  b_is_int : Binds K q.d_is_int ["value"] []
  m_is_int : mg "is_int" = some (.ref q.f_is_int)
  F_in_bounds : Fun K "in_bounds" "in_bounds" s_in_bounds q.f_in_bounds q.d_in_bounds
  b_in_bounds : Binds K q.d_in_bounds ["value", "top"] []
  m_in_bounds : mg "in_bounds" = some (.ref q.f_in_bounds)
  F_are_box_numbers : Fun K "are_box_numbers" "are_box_numbers" s_are_box_numbers q.f_are_box_numbers q.d_are_box_numbers
  b_are_box_numbers : Binds K q.d_are_box_numbers ["wish", "least", "most", "grow", "shrink"] []
  m_are_box_numbers : mg "are_box_numbers" = some (.ref q.f_are_box_numbers)
  F_Box_d_init_d : FunZ K "__init__" "Box.__init__" s_Box_d_init_d q.f_Box_d_init_d q.d_Box_d_init_d
  b_Box_d_init_d : Binds K q.d_Box_d_init_d ["self", "wish", "least", "most", "grow", "shrink"] []
  F__law_made : Fun K "_law_made" "_law_made" s__law_made q.f__law_made q.d__law_made
  b__law_made : Binds K q.d__law_made ["pattern"] []
  m__law_made : mg "_law_made" = some (.ref q.f__law_made)
  F__law_limit : Fun K "_law_limit" "_law_limit" s__law_limit q.f__law_limit q.d__law_limit
  b__law_limit : Binds K q.d__law_limit ["box", "number"] []
  m__law_limit : mg "_law_limit" = some (.ref q.f__law_limit)
  F__law_own : Fun K "_law_own" "_law_own" s__law_own q.f__law_own q.d__law_own
  b__law_own : Binds K q.d__law_own ["numbers"] []
  m__law_own : mg "_law_own" = some (.ref q.f__law_own)
  F_Lines_turn : Fun K "turn" "Lines.turn" s_Lines_turn q.f_Lines_turn q.d_Lines_turn
  b_Lines_turn : Binds K q.d_Lines_turn ["self"] []
  F_Lines_line_with : Fun K "line_with" "Lines.line_with" s_Lines_line_with q.f_Lines_line_with q.d_Lines_line_with
  b_Lines_line_with : Binds K q.d_Lines_line_with ["self", "box"] []
  F_Lines_number : Fun K "number" "Lines.number" s_Lines_number q.f_Lines_number q.d_Lines_number
  b_Lines_number : Binds K q.d_Lines_number ["self"] []
  F_check_boxes : Fun K "check_boxes" "check_boxes" s_check_boxes q.f_check_boxes q.d_check_boxes
  b_check_boxes : Binds K q.d_check_boxes ["boxes"] []
  m_check_boxes : mg "check_boxes" = some (.ref q.f_check_boxes)
  F_check_pattern : Fun K "check_pattern" "check_pattern" s_check_pattern q.f_check_pattern q.d_check_pattern
  b_check_pattern : Binds K q.d_check_pattern ["boxes", "gap", "times"] []
  m_check_pattern : mg "check_pattern" = some (.ref q.f_check_pattern)
  F_check_whole : Fun K "check_whole" "check_whole" s_check_whole q.f_check_whole q.d_check_whole
  b_check_whole : Binds K q.d_check_whole ["whole"] []
  m_check_whole : mg "check_whole" = some (.ref q.f_check_whole)
  F_limited : Fun K "limited" "limited" s_limited q.f_limited q.d_limited
  b_limited : Binds K q.d_limited ["value", "least", "most"] []
  m_limited : mg "limited" = some (.ref q.f_limited)
  F_Box_own : Fun K "own" "Box.own" s_Box_own q.f_Box_own q.d_Box_own
  b_Box_own : Binds K q.d_Box_own ["self"] []
  F_boxes_that_fit : Fun K "boxes_that_fit" "boxes_that_fit" s_boxes_that_fit q.f_boxes_that_fit q.d_boxes_that_fit
  b_boxes_that_fit : Binds K q.d_boxes_that_fit ["costs", "place", "room"] []
  m_boxes_that_fit : mg "boxes_that_fit" = some (.ref q.f_boxes_that_fit)
  F_Lines_length_at : Fun K "length_at" "Lines.length_at" s_Lines_length_at q.f_Lines_length_at q.d_Lines_length_at
  b_Lines_length_at : Binds K q.d_Lines_length_at ["self", "place"] []
  F_Lines_add_line : Fun K "add_line" "Lines.add_line" s_Lines_add_line q.f_Lines_add_line q.d_Lines_add_line
  b_Lines_add_line : Binds K q.d_Lines_add_line ["self"] []
  F_Lines_d_init_d : Fun K "__init__" "Lines.__init__" s_Lines_d_init_d q.f_Lines_d_init_d q.d_Lines_d_init_d
  b_Lines_d_init_d : Binds K q.d_Lines_d_init_d ["self", "boxes", "gap", "times", "whole"] []
  F_lines_of : Fun K "lines_of" "lines_of" s_lines_of q.f_lines_of q.d_lines_of
  b_lines_of : Binds K q.d_lines_of ["boxes", "gap", "times", "whole"] []
  m_lines_of : mg "lines_of" = some (.ref q.f_lines_of)
  F_count_lines : Fun K "count_lines" "count_lines" s_count_lines q.f_count_lines q.d_count_lines
  b_count_lines : Binds K q.d_count_lines ["boxes", "gap", "times", "whole"] []
  m_count_lines : mg "count_lines" = some (.ref q.f_count_lines)
  F_check_index : Fun K "check_index" "check_index" s_check_index q.f_check_index q.d_check_index
  b_check_index : Binds K q.d_check_index ["index", "many"] []
  m_check_index : mg "check_index" = some (.ref q.f_check_index)
  F_Lines_begin : Fun K "begin" "Lines.begin" s_Lines_begin q.f_Lines_begin q.d_Lines_begin
  b_Lines_begin : Binds K q.d_Lines_begin ["self", "index"] []
  F_line_of : Fun K "line_of" "line_of" s_line_of q.f_line_of q.d_line_of
  b_line_of : Binds K q.d_line_of ["boxes", "gap", "times", "whole", "index"] []
  m_line_of : mg "line_of" = some (.ref q.f_line_of)
  F_Lines_length : Fun K "length" "Lines.length" s_Lines_length q.f_Lines_length q.d_Lines_length
  b_Lines_length : Binds K q.d_Lines_length ["self", "index"] []
  F_line_at : Fun K "line_at" "line_at" s_line_at q.f_line_at q.d_line_at
  b_line_at : Binds K q.d_line_at ["boxes", "gap", "times", "whole", "index"] []
  m_line_at : mg "line_at" = some (.ref q.f_line_at)
  F__law_sum : Fun K "_law_sum" "_law_sum" s__law_sum q.f__law_sum q.d__law_sum
  b__law_sum : Binds K q.d__law_sum ["widths", "first", "many"] []
  m__law_sum : mg "_law_sum" = some (.ref q.f__law_sum)
  F__law_line_right : Fun K "_law_line_right" "_law_line_right" s__law_line_right q.f__law_line_right q.d__law_line_right
  b__law_line_right : Binds K q.d__law_line_right ["told", "widths", "gap", "whole_here", "line"] []
  m__law_line_right : mg "_law_line_right" = some (.ref q.f__law_line_right)
  F__law_right : Fun K "_law_right" "_law_right" s__law_right q.f__law_right q.d__law_right
  b__law_right : Binds K q.d__law_right ["crib", "pattern", "most"] []
  m__law_right : mg "_law_right" = some (.ref q.f__law_right)
  F__law_width : Fun K "_law_width" "_law_width" s__law_width q.f__law_width q.d__law_width
  b__law_width : Binds K q.d__law_width ["crib", "most"] []
  m__law_width : mg "_law_width" = some (.ref q.f__law_width)
  F__law_weight : Fun K "_law_weight" "_law_weight" s__law_weight q.f__law_weight q.d__law_weight
  b__law_weight : Binds K q.d__law_weight ["crib", "heavy"] []
  m__law_weight : mg "_law_weight" = some (.ref q.f__law_weight)
  F__law_box : Fun K "_law_box" "_law_box" s__law_box q.f__law_box q.d__law_box
  b__law_box : Binds K q.d__law_box ["crib", "most", "heavy"] []
  m__law_box : mg "_law_box" = some (.ref q.f__law_box)
  F__law_pattern : Fun K "_law_pattern" "_law_pattern" s__law_pattern q.f__law_pattern q.d__law_pattern
  b__law_pattern : Binds K q.d__law_pattern ["crib", "many", "most"] []
  m__law_pattern : mg "_law_pattern" = some (.ref q.f__law_pattern)
  F_law : Fun K "law" "law" s_law q.f_law q.d_law
  b_law : Binds K q.d_law ["script"] []
  m_law : mg "law" = some (.ref q.f_law)
  b4_Box_d_init_d : ∃ ts : List Value, Vals [V.int 0, V.non, V.int 0, V.int 0] ts ∧ Binds K q.d_Box_d_init_d ["self", "wish", "least", "most", "grow", "shrink"] ts
  m_Box : mg "Box" = some (.ref q.c_Box)
  cl_Box : Cls K q.c_Box
  no_Box__wish : NoAttr K q.c_Box "_wish"
  no_Box__least : NoAttr K q.c_Box "_least"
  no_Box__most : NoAttr K q.c_Box "_most"
  no_Box__grow : NoAttr K q.c_Box "_grow"
  no_Box__shrink : NoAttr K q.c_Box "_shrink"
  mk_Box : Mk K q.c_Box q.f_Box_d_init_d
  pr_Box_own : PropOf K q.c_Box "own" q.p_Box_own q.f_Box_own
  is_Box : Isi K q.c_Box
  m_Lines : mg "Lines" = some (.ref q.c_Lines)
  cl_Lines : Cls K q.c_Lines
  no_Lines_wide : NoAttr K q.c_Lines "wide"
  no_Lines_amount : NoAttr K q.c_Lines "amount"
  no_Lines_costs : NoAttr K q.c_Lines "costs"
  no_Lines_room : NoAttr K q.c_Lines "room"
  no_Lines_starts : NoAttr K q.c_Lines "starts"
  no_Lines_again : NoAttr K q.c_Lines "again"
  mk_Lines : Mk K q.c_Lines q.f_Lines_d_init_d
  me_Lines_length_at : Meth K q.c_Lines "length_at" q.f_Lines_length_at
  me_Lines_add_line : Meth K q.c_Lines "add_line" q.f_Lines_add_line
  me_Lines_turn : Meth K q.c_Lines "turn" q.f_Lines_turn
  me_Lines_begin : Meth K q.c_Lines "begin" q.f_Lines_begin
  me_Lines_line_with : Meth K q.c_Lines "line_with" q.f_Lines_line_with
  me_Lines_number : Meth K q.c_Lines "number" q.f_Lines_number
  me_Lines_length : Meth K q.c_Lines "length" q.f_Lines_length
  is_Lines : Isi K q.c_Lines
  c_HEAVIEST : ∃ t, mg "HEAVIEST" = some (.int 1000000 t)
  c_MOST_BOXES : ∃ t, mg "MOST_BOXES" = some (.int 40 t)
  c_MOST_TIMES : ∃ t, mg "MOST_TIMES" = some (.int 1000000000000000000000000000000 t)
  c_WIDEST : ∃ t, mg "WIDEST" = some (.int 1000000000000000000000000000000 t)
  n_all : mg "all" = none
  n_bool : mg "bool" = none
  n_divmod : mg "divmod" = none
  n_int : mg "int" = none
  n_isinstance : mg "isinstance" = none
  n_len : mg "len" = none
  n_list : mg "list" = none
  n_max : mg "max" = none
  n_min : mg "min" = none
  n_range : mg "range" = none
  n_sum : mg "sum" = none
section
variable {P : Program} {w : World} {K : PySem.W.Frag} {mg : Str → Option Value} {base : Heap} {q : Ad}
theorem ok__law_crib (T : Tx K mg q) : FnOk P w K mg base CX0 1 q.f__law_crib q.d__law_crib ["script", "k"] (SpZ K (CIof q) (W__law_crib K (CIof q))) :=
  fnz_ok T.F__law_crib sc__law_crib (fun _ _ _ h => h.1) fun cdv A outer s H E hr => ⟨z__law_crib K (CIof q),
    szs_cons (sz_set (i := 2) sc__law_crib.nd (ez_if (tz_cmp oz_lt (ez_var 1) (ez_callB cz_len T.n_len (by decide +kernel) (az_cons (ez_var 0) (az_nil)))) (ez_ix (ez_var 0) (ez_var 1)) (ez_int)))
    (szs_one (sz_ret (ez_lstC (az_cons (ez_callB (cz_max2 rfl) T.n_max (by decide +kernel) (az_cons (ez_int) (az_cons (ez_op oz_sub (ez_var 2) (ez_op oz_pow (ez_int) (ez_int))) (az_nil)))) (az_cons (ez_op oz_add (ez_op oz_add (ez_op oz_mul (ez_op oz_mod (ez_var 2) (ez_op oz_add (ez_op oz_pow (ez_int) (ez_int)) (ez_int))) (ez_int)) (ez_op oz_mul (ez_int) (ez_var 1))) (ez_int)) (az_cons (ez_int) (az_nil))))))),
    fun _ _ _ h => h.2⟩
theorem ok__law_pluck (T : Tx K mg q) : FnOk P w K mg base CX0 1 q.f__law_pluck q.d__law_pluck ["crib", "many"] (SpZ K (CIof q) (W__law_pluck K (CIof q))) :=
  fnz_ok T.F__law_pluck sc__law_pluck (fun _ _ _ h => h.1) fun cdv A outer s H E hr => ⟨z__law_pluck K (CIof q),
    szs_cons (sz_if (tz_cmp oz_gt (ez_ix (ez_var 0) (ez_int)) (ez_int)) (szs_cons (sz_set (i := 2) sc__law_pluck.nd (ez_op oz_mod (ez_ix (ez_var 0) (ez_int)) (ez_var 1)))
    (szs_cons (sz_asgSub (ez_op oz_fdiv (ez_ix (ez_var 0) (ez_int)) (ez_var 1)) (gz_sub (ez_var 0) (ez_int)))
    (szs_one (sz_ret (ez_var 2))))) (szs_nil))
    (szs_cons (sz_asgSub (ez_op oz_add (ez_ix (ez_var 0) (ez_int)) (ez_int)) (gz_sub (ez_var 0) (ez_int)))
    (szs_cons (sz_set (i := 3) sc__law_pluck.nd (ez_op oz_mod (ez_op oz_powW (ez_op oz_add (ez_ix (ez_var 0) (ez_int)) (ez_op oz_mul (ez_int) (ez_ix (ez_var 0) (ez_int)))) (ez_int)) (ez_op oz_add (ez_op oz_pow (ez_int) (ez_int)) (ez_int))))
    (szs_cons (sz_set (i := 3) sc__law_pluck.nd (ez_op oz_mod (ez_op oz_powW (ez_op oz_add (ez_var 3) (ez_op oz_mul (ez_int) (ez_ix (ez_var 0) (ez_int)))) (ez_int)) (ez_op oz_add (ez_op oz_pow (ez_int) (ez_int)) (ez_int))))
    (szs_one (sz_ret (ez_op oz_mod (ez_op oz_fdiv (ez_var 3) (ez_int)) (ez_var 1))))))),
    fun _ _ _ h => h.2⟩
theorem ok_is_int (T : Tx K mg q) : FnOk P w K mg base CX0 1 q.f_is_int q.d_is_int ["value"] (SpZ K (CIof q) (W_is_int K (CIof q))) :=
  fnz_ok T.F_is_int sc_is_int (fun _ _ _ h => h.1) fun cdv A outer s H E hr => ⟨z_is_int K (CIof q),
    szs_one (sz_ret (ez_and (ez_callB cz_isi T.n_isinstance (by decide +kernel) (az_cons (ez_var 0) (az_cons (ez_ty T.n_int PyProof.Rows.boot_int) (az_nil)))) (ez_one (ez_not (ez_callB cz_isi T.n_isinstance (by decide +kernel) (az_cons (ez_var 0) (az_cons (ez_ty T.n_bool PyProof.Rows.boot_bool) (az_nil)))))))),
    fun _ _ _ h => h.2⟩
theorem ok_in_bounds (T : Tx K mg q) : FnOk P w K mg base CX0 2 q.f_in_bounds q.d_in_bounds ["value", "top"] (SpZ K (CIof q) (W_in_bounds K (CIof q))) :=
  fnz_ok T.F_in_bounds sc_in_bounds (fun _ _ _ h => h.1) fun cdv A outer s H E hr => ⟨z_in_bounds K (CIof q),
    szs_one (sz_ret (ez_and (ez_calln (ok_is_int T) (hr.mono (by decide)) T.m_is_int T.F_is_int.kp T.b_is_int (az_cons (ez_var 0) (az_nil))) (ez_one (ez_chain oz_le oz_le (ez_int) (ez_var 0) (ez_var 1))))),
    fun _ _ _ h => h.2⟩
theorem ok_are_box_numbers (T : Tx K mg q) : FnOk P w K mg base CX0 3 q.f_are_box_numbers q.d_are_box_numbers ["wish", "least", "most", "grow", "shrink"] (SpZ K (CIof q) (W_are_box_numbers K (CIof q))) :=
  fnz_ok T.F_are_box_numbers sc_are_box_numbers (fun _ _ _ h => h.1) fun cdv A outer s H E hr => ⟨z_are_box_numbers K (CIof q),
    szs_cons (sz_set (i := 5) sc_are_box_numbers.nd (ez_if (tz_cmp oz_isN (ez_var 2) (ez_non)) (ez_lst (az_cons (ez_var 0) (az_cons (ez_var 1) (az_nil)))) (ez_lst (az_cons (ez_var 0) (az_cons (ez_var 1) (az_cons (ez_var 2) (az_nil)))))))
    (szs_one (sz_ret (ez_and (ez_callB (cz_all rfl) T.n_all (by decide +kernel) (az_cons (ez_lc (own := [("width", 6)]) sc_are_box_numbers.nd (iz_list (ez_var 5)) (blkOk_by (N := N_are_box_numbers) (sc := defScope s_are_box_numbers) (by decide +kernel)) (own_name (i := 6) (by decide)) (blkz (ref_gName) (fun _ _ _ _ _ => pg_name (i := 6) sc_are_box_numbers.nd rfl (by first | exact Or.inl rfl | exact Or.inr rfl) (by first | exact Or.inl rfl | exact Or.inr rfl)) (fun _ _ _ _ _ => tsz_nil) (fun _ _ _ _ _ => ez_calln (ok_in_bounds T) (hr.mono (by decide)) T.m_in_bounds T.F_in_bounds.kp T.b_in_bounds (az_cons (ez_var 6) (az_cons (ez_gint (Classical.choose_spec T.c_WIDEST)) (az_nil)))))) (az_nil))) (ez_and (ez_callB (cz_all rfl) T.n_all (by decide +kernel) (az_cons (ez_lc (own := [("weight", 7)]) sc_are_box_numbers.nd (iz_tup (ez_tup (az_cons (ez_var 3) (az_cons (ez_var 4) (az_nil))))) (blkOk_by (N := N_are_box_numbers) (sc := defScope s_are_box_numbers) (by decide +kernel)) (own_name (i := 7) (by decide)) (blkz (ref_gName) (fun _ _ _ _ _ => pg_name (i := 7) sc_are_box_numbers.nd rfl (by first | exact Or.inl rfl | exact Or.inr rfl) (by first | exact Or.inl rfl | exact Or.inr rfl)) (fun _ _ _ _ _ => tsz_nil) (fun _ _ _ _ _ => ez_calln (ok_in_bounds T) (hr.mono (by decide)) T.m_in_bounds T.F_in_bounds.kp T.b_in_bounds (az_cons (ez_var 7) (az_cons (ez_gint (Classical.choose_spec T.c_HEAVIEST)) (az_nil)))))) (az_nil))) (ez_one (ez_or (ez_cmp oz_isN (ez_var 2) (ez_non)) (ez_one (ez_cmp oz_le (ez_var 1) (ez_var 2))))))))),
    fun _ _ _ h => h.2⟩
theorem ok_Box_d_init_d (T : Tx K mg q) : FnOk P w K mg base CX0 4 q.f_Box_d_init_d q.d_Box_d_init_d ["self", "wish", "least", "most", "grow", "shrink"] (SpZ K (CIof q) (W_Box_d_init_d K (CIof q))) :=
  fnz_okZ T.F_Box_d_init_d sc_Box_d_init_d (fun _ _ _ h => h.1) fun cdv A outer s H E hr => ⟨z_Box_d_init_d K (CIof q),
    szs_cons (sz_if (tz_not (tz_val (ez_calln (ok_are_box_numbers T) (hr.mono (by decide)) T.m_are_box_numbers T.F_are_box_numbers.kp T.b_are_box_numbers (az_cons (ez_var 1) (az_cons (ez_var 2) (az_cons (ez_var 3) (az_cons (ez_var 4) (az_cons (ez_var 5) (az_nil))))))))) (szs_one (sz_never)) (szs_nil))
    (szs_cons (sz_setF (c := 0) (ez_var 0) (ez_var 1) T.cl_Box T.no_Box__wish)
    (szs_cons (sz_setF (c := 0) (ez_var 0) (ez_var 2) T.cl_Box T.no_Box__least)
    (szs_cons (sz_setF (c := 0) (ez_var 0) (ez_var 3) T.cl_Box T.no_Box__most)
    (szs_cons (sz_setF (c := 0) (ez_var 0) (ez_var 4) T.cl_Box T.no_Box__grow)
    (szs_one (sz_setF (c := 0) (ez_var 0) (ez_var 5) T.cl_Box T.no_Box__shrink)))))),
    fun _ _ _ h => h.2⟩
theorem ok__law_made (T : Tx K mg q) : FnOk P w K mg base CX0 6 q.f__law_made q.d__law_made ["pattern"] (SpZ K (CIof q) (W__law_made K (CIof q))) :=
  fnz_ok T.F__law_made sc__law_made (fun _ _ _ h => h.1) fun cdv A outer s H E hr => ⟨z__law_made K (CIof q),
    szs_one (sz_ret (ez_lc (own := [("numbers", 1)]) sc__law_made.nd (iz_list (ez_var 0)) (blkOk_by (N := N__law_made) (sc := defScope s__law_made) (by decide +kernel)) (own_name (i := 1) (by decide)) (blkz (ref_gName) (fun _ _ _ _ _ => pg_name (i := 1) sc__law_made.nd rfl (by first | exact Or.inl rfl | exact Or.inr rfl) (by first | exact Or.inl rfl | exact Or.inr rfl)) (fun _ _ _ _ _ => tsz_nil) (fun _ _ _ _ _ => ez_makeF (c := 0) T.mk_Box (ok_Box_d_init_d T) (hr.mono (by decide)) T.m_Box T.b_Box_d_init_d .nil (fun _ _ _ => .nil) (az_cons (ez_ix (ez_var 1) (ez_int)) (az_cons (ez_ix (ez_var 1) (ez_int)) (az_cons (ez_ix (ez_var 1) (ez_int)) (az_cons (ez_ix (ez_var 1) (ez_int)) (az_cons (ez_ix (ez_var 1) (ez_int)) (az_nil)))))))))),
    fun _ _ _ h => h.2⟩
theorem ok__law_limit (T : Tx K mg q) : FnOk P w K mg base CX0 1 q.f__law_limit q.d__law_limit ["box", "number"] (SpZ K (CIof q) (W__law_limit K (CIof q))) :=
  fnz_ok T.F__law_limit sc__law_limit (fun _ _ _ h => h.1) fun cdv A outer s H E hr => ⟨z__law_limit K (CIof q),
    szs_cons (sz_if (tz_cmp oz_lt (ez_ix (ez_var 1) (ez_int)) (ez_op oz_mul (ez_ix (ez_var 0) (ez_int)) (ez_ix (ez_var 1) (ez_int)))) (szs_one (sz_ret (ez_tup (az_cons (ez_ix (ez_var 0) (ez_int)) (az_cons (ez_int) (az_nil)))))) (szs_nil))
    (szs_cons (sz_if ((wz_and (tz_cmp oz_notN (ez_ix (ez_var 0) (ez_int)) (ez_non)) (wz_and1 (tz_cmp oz_gt (ez_ix (ez_var 1) (ez_int)) (ez_op oz_mul (ez_ix (ez_var 0) (ez_int)) (ez_ix (ez_var 1) (ez_int)))))).tz) (szs_one (sz_ret (ez_tup (az_cons (ez_ix (ez_var 0) (ez_int)) (az_cons (ez_int) (az_nil)))))) (szs_nil))
    (szs_one (sz_ret (ez_var 1)))),
    fun _ _ _ h => h.2⟩
theorem ok__law_own (T : Tx K mg q) : FnOk P w K mg base CX0 2 q.f__law_own q.d__law_own ["numbers"] (SpZ K (CIof q) (W__law_own K (CIof q))) :=
  fnz_ok T.F__law_own sc__law_own (fun _ _ _ h => h.1) fun cdv A outer s H E hr => ⟨z__law_own K (CIof q),
    szs_one (sz_ret (ez_ix (ez_calln (ok__law_limit T) (hr.mono (by decide)) T.m__law_limit T.F__law_limit.kp T.b__law_limit (az_cons (ez_var 0) (az_cons (ez_tup (az_cons (ez_ix (ez_var 0) (ez_int)) (az_cons (ez_int) (az_nil)))) (az_nil)))) (ez_int))),
    fun _ _ _ h => h.2⟩
theorem ok_Lines_turn (T : Tx K mg q) : FnOk P w K mg base CX0 1 q.f_Lines_turn q.d_Lines_turn ["self"] (SpZ K (CIof q) (W_Lines_turn K (CIof q))) :=
  fnz_ok T.F_Lines_turn sc_Lines_turn (fun _ _ _ h => h.1) fun cdv A outer s H E hr => ⟨z_Lines_turn K (CIof q),
    szs_one (sz_ret (ez_tup (az_cons (ez_op oz_sub (ez_op oz_sub (ez_callB cz_len T.n_len (by decide +kernel) (az_cons (ez_fld (c := 1) (ez_var 0) T.cl_Lines T.no_Lines_starts) (az_nil))) (ez_int)) (ez_fld (c := 1) (ez_var 0) T.cl_Lines T.no_Lines_again)) (az_cons (ez_op oz_sub (ez_ix (ez_fld (c := 1) (ez_var 0) T.cl_Lines T.no_Lines_starts) (ez_neg (ez_int))) (ez_ix (ez_fld (c := 1) (ez_var 0) T.cl_Lines T.no_Lines_starts) (ez_fld (c := 1) (ez_var 0) T.cl_Lines T.no_Lines_again))) (az_nil))))),
    fun _ _ _ h => h.2⟩
theorem ok_Lines_line_with (T : Tx K mg q) : FnOk P w K mg base CX0 2 q.f_Lines_line_with q.d_Lines_line_with ["self", "box"] (SpZ K (CIof q) (W_Lines_line_with K (CIof q))) :=
  fnz_ok T.F_Lines_line_with sc_Lines_line_with (fun _ _ _ h => h.1) fun cdv A outer s H E hr => ⟨z_Lines_line_with K (CIof q),
    szs_cons (sz_asg (ez_meth0 (c := 1) (ez_var 0) T.cl_Lines T.me_Lines_turn (ok_Lines_turn T) (hr.mono (by decide)) T.b_Lines_turn) (gz_tup (gsz_cons (gz_name (i := 2) sc_Lines_line_with.nd rfl) (gsz_cons (gz_name (i := 3) sc_Lines_line_with.nd rfl) (gsz_nil)))))
    (szs_cons (sz_set (i := 4) sc_Lines_line_with.nd (ez_callB (cz_max2 rfl) T.n_max (by decide +kernel) (az_cons (ez_int) (az_cons (ez_op oz_fdiv (ez_op oz_sub (ez_var 1) (ez_ix (ez_fld (c := 1) (ez_var 0) T.cl_Lines T.no_Lines_starts) (ez_fld (c := 1) (ez_var 0) T.cl_Lines T.no_Lines_again))) (ez_var 3)) (az_nil)))))
    (szs_cons (sz_set (i := 5) sc_Lines_line_with.nd (ez_op oz_sub (ez_var 1) (ez_op oz_mul (ez_var 4) (ez_var 3))))
    (szs_one (sz_ret (ez_op oz_sub (ez_op oz_add (ez_op oz_mul (ez_var 4) (ez_var 2)) (ez_callB cz_len T.n_len (by decide +kernel) (az_cons (ez_lc (own := [("start", 6)]) sc_Lines_line_with.nd (iz_list (ez_fld (c := 1) (ez_var 0) T.cl_Lines T.no_Lines_starts)) (blkOk_by (N := N_Lines_line_with) (sc := defScope s_Lines_line_with) (by decide +kernel)) (own_name (i := 6) (by decide)) (blkz (ref_gName) (fun _ _ _ _ _ => pg_name (i := 6) sc_Lines_line_with.nd rfl (by first | exact Or.inl rfl | exact Or.inr rfl) (by first | exact Or.inl rfl | exact Or.inr rfl)) (fun _ _ _ _ _ => tsz_one (tz_cmp oz_le (ez_var 6) (ez_var 5))) (fun _ _ _ _ _ => ez_var 6))) (az_nil)))) (ez_int)))))),
    fun _ _ _ h => h.2⟩
theorem ok_Lines_number (T : Tx K mg q) : FnOk P w K mg base CX0 3 q.f_Lines_number q.d_Lines_number ["self"] (SpZ K (CIof q) (W_Lines_number K (CIof q))) :=
  fnz_ok T.F_Lines_number sc_Lines_number (fun _ _ _ h => h.1) fun cdv A outer s H E hr => ⟨z_Lines_number K (CIof q),
    szs_one (sz_ret (ez_op oz_add (ez_meth (c := 1) (ez_var 0) T.cl_Lines T.me_Lines_line_with (ok_Lines_line_with T) (hr.mono (by decide)) T.b_Lines_line_with (az_cons (ez_op oz_sub (ez_fld (c := 1) (ez_var 0) T.cl_Lines T.no_Lines_amount) (ez_int)) (az_nil))) (ez_int))),
    fun _ _ _ h => h.2⟩
theorem ok_check_boxes (T : Tx K mg q) : FnOk P w K mg base CX0 1 q.f_check_boxes q.d_check_boxes ["boxes"] (SpZ K (CIof q) (W_check_boxes K (CIof q))) :=
  fnz_ok T.F_check_boxes sc_check_boxes (fun _ _ _ h => h.1) fun cdv A outer s H E hr => ⟨z_check_boxes K (CIof q),
    szs_cons (sz_if ((wz_or (tz_not (tz_val (ez_callB cz_isi T.n_isinstance (by decide +kernel) (az_cons (ez_var 0) (az_cons (ez_ty T.n_list PyProof.Rows.boot_list) (az_nil)))))) (wz_or1 (tz_not (tz_chain oz_le oz_le (ez_int) (ez_callB cz_len T.n_len (by decide +kernel) (az_cons (ez_var 0) (az_nil))) (ez_gint (Classical.choose_spec T.c_MOST_BOXES)))))).tz) (szs_one (sz_never)) (szs_nil))
    (szs_one (sz_if (tz_not (tz_val (ez_callB (cz_all rfl) T.n_all (by decide +kernel) (az_cons (ez_lc (own := [("box", 1)]) sc_check_boxes.nd (iz_list (ez_var 0)) (blkOk_by (N := N_check_boxes) (sc := defScope s_check_boxes) (by decide +kernel)) (own_name (i := 1) (by decide)) (blkz (ref_gName) (fun _ _ _ _ _ => pg_name (i := 1) sc_check_boxes.nd rfl (by first | exact Or.inl rfl | exact Or.inr rfl) (by first | exact Or.inl rfl | exact Or.inr rfl)) (fun _ _ _ _ _ => tsz_nil) (fun _ _ _ _ _ => ez_callB cz_isi T.n_isinstance (by decide +kernel) (az_cons (ez_var 1) (az_cons (ez_cls T.m_Box) (az_nil)))))) (az_nil))))) (szs_one (sz_never)) (szs_nil))),
    fun _ _ _ h => h.2⟩
theorem ok_check_pattern (T : Tx K mg q) : FnOk P w K mg base CX0 3 q.f_check_pattern q.d_check_pattern ["boxes", "gap", "times"] (SpZ K (CIof q) (W_check_pattern K (CIof q))) :=
  fnz_ok T.F_check_pattern sc_check_pattern (fun _ _ _ h => h.1) fun cdv A outer s H E hr => ⟨z_check_pattern K (CIof q),
    szs_cons (sz_expr (ez_calln (ok_check_boxes T) (hr.mono (by decide)) T.m_check_boxes T.F_check_boxes.kp T.b_check_boxes (az_cons (ez_var 0) (az_nil))))
    (szs_cons (sz_if (tz_not (tz_val (ez_calln (ok_in_bounds T) (hr.mono (by decide)) T.m_in_bounds T.F_in_bounds.kp T.b_in_bounds (az_cons (ez_var 1) (az_cons (ez_gint (Classical.choose_spec T.c_WIDEST)) (az_nil)))))) (szs_one (sz_never)) (szs_nil))
    (szs_one (sz_if ((wz_or (tz_not (tz_val (ez_calln (ok_in_bounds T) (hr.mono (by decide)) T.m_in_bounds T.F_in_bounds.kp T.b_in_bounds (az_cons (ez_var 2) (az_cons (ez_gint (Classical.choose_spec T.c_MOST_TIMES)) (az_nil)))))) (wz_or1 (tz_cmp (oz_eqD hr.units) (ez_var 2) (ez_int)))).tz) (szs_one (sz_never)) (szs_nil)))),
    fun _ _ _ h => h.2⟩
theorem ok_check_whole (T : Tx K mg q) : FnOk P w K mg base CX0 2 q.f_check_whole q.d_check_whole ["whole"] (SpZ K (CIof q) (W_check_whole K (CIof q))) :=
  fnz_ok T.F_check_whole sc_check_whole (fun _ _ _ h => h.1) fun cdv A outer s H E hr => ⟨z_check_whole K (CIof q),
    szs_one (sz_if ((wz_or (tz_not (tz_val (ez_calln (ok_is_int T) (hr.mono (by decide)) T.m_is_int T.F_is_int.kp T.b_is_int (az_cons (ez_var 0) (az_nil))))) (wz_or1 (tz_cmp oz_lt (ez_var 0) (ez_int)))).tz) (szs_one (sz_never)) (szs_nil)),
    fun _ _ _ h => h.2⟩
theorem ok_limited (T : Tx K mg q) : FnOk P w K mg base CX0 1 q.f_limited q.d_limited ["value", "least", "most"] (SpZ K (CIof q) (W_limited K (CIof q))) :=
  fnz_ok T.F_limited sc_limited (fun _ _ _ h => h.1) fun cdv A outer s H E hr => ⟨z_limited K (CIof q),
    szs_cons (sz_if (tz_cmp oz_lt (ez_var 0) (ez_var 1)) (szs_one (sz_ret (ez_var 1))) (szs_nil))
    (szs_cons (sz_if ((wz_and (tz_cmp oz_notN (ez_var 2) (ez_non)) (wz_and1 (tz_cmp oz_gt (ez_var 0) (ez_var 2)))).tz) (szs_one (sz_ret (ez_var 2))) (szs_nil))
    (szs_one (sz_ret (ez_var 0)))),
    fun _ _ _ h => h.2⟩
theorem ok_Box_own (T : Tx K mg q) : FnOk P w K mg base CX0 2 q.f_Box_own q.d_Box_own ["self"] (SpZ K (CIof q) (W_Box_own K (CIof q))) :=
  fnz_ok T.F_Box_own sc_Box_own (fun _ _ _ h => h.1) fun cdv A outer s H E hr => ⟨z_Box_own K (CIof q),
    szs_one (sz_ret (ez_calln (ok_limited T) (hr.mono (by decide)) T.m_limited T.F_limited.kp T.b_limited (az_cons (ez_fld (c := 0) (ez_var 0) T.cl_Box T.no_Box__wish) (az_cons (ez_fld (c := 0) (ez_var 0) T.cl_Box T.no_Box__least) (az_cons (ez_fld (c := 0) (ez_var 0) T.cl_Box T.no_Box__most) (az_nil)))))),
    fun _ _ _ h => h.2⟩
theorem ok_boxes_that_fit (T : Tx K mg q) : FnOk P w K mg base CX0 1 q.f_boxes_that_fit q.d_boxes_that_fit ["costs", "place", "room"] (SpZ K (CIof q) (W_boxes_that_fit K (CIof q))) :=
  fnz_ok T.F_boxes_that_fit sc_boxes_that_fit (fun _ _ _ h => h.1) fun cdv A outer s H E hr => ⟨z_boxes_that_fit K (CIof q),
    szs_cons (sz_asg (ez_callB cz_divmod T.n_divmod (by decide +kernel) (az_cons (ez_var 2) (az_cons (ez_callB (cz_sum rfl) T.n_sum (by decide +kernel) (az_cons (ez_var 0) (az_nil))) (az_nil)))) (gz_tup (gsz_cons (gz_name (i := 3) sc_boxes_that_fit.nd rfl) (gsz_cons (gz_name (i := 4) sc_boxes_that_fit.nd rfl) (gsz_nil)))))
    (szs_cons (sz_par (i := 5) (j := 6) sc_boxes_that_fit.nd rfl rfl (by decide) rfl rfl (az_cons (ez_op oz_mul (ez_var 3) (ez_callB cz_len T.n_len (by decide +kernel) (az_cons (ez_var 0) (az_nil)))) (az_cons (ez_var 1) (az_nil))))
    (szs_cons (sz_while (tz_cmp oz_le (ez_ix (ez_var 0) (ez_var 6)) (ez_var 4)) (szs_cons (sz_aug (i := 4) sc_boxes_that_fit.nd (ez_ix (ez_var 0) (ez_var 6)) ip_sub)
    (szs_cons (sz_aug (i := 5) sc_boxes_that_fit.nd (ez_int) ip_add)
    (szs_one (sz_set (i := 6) sc_boxes_that_fit.nd (ez_op oz_mod (ez_op oz_add (ez_var 6) (ez_int)) (ez_callB cz_len T.n_len (by decide +kernel) (az_cons (ez_var 0) (az_nil)))))))))
    (szs_one (sz_ret (ez_var 5))))),
    fun _ _ _ h => h.2⟩
theorem ok_Lines_length_at (T : Tx K mg q) : FnOk P w K mg base CX0 2 q.f_Lines_length_at q.d_Lines_length_at ["self", "place"] (SpZ K (CIof q) (W_Lines_length_at K (CIof q))) :=
  fnz_ok T.F_Lines_length_at sc_Lines_length_at (fun _ _ _ h => h.1) fun cdv A outer s H E hr => ⟨z_Lines_length_at K (CIof q),
    szs_cons (sz_if (tz_cmp (oz_eqD hr.units) (ez_callB (cz_sum rfl) T.n_sum (by decide +kernel) (az_cons (ez_fld (c := 1) (ez_var 0) T.cl_Lines T.no_Lines_costs) (az_nil))) (ez_int)) (szs_one (sz_ret (ez_fld (c := 1) (ez_var 0) T.cl_Lines T.no_Lines_amount))) (szs_nil))
    (szs_one (sz_ret (ez_callB (cz_max2 rfl) T.n_max (by decide +kernel) (az_cons (ez_int) (az_cons (ez_calln (ok_boxes_that_fit T) (hr.mono (by decide)) T.m_boxes_that_fit T.F_boxes_that_fit.kp T.b_boxes_that_fit (az_cons (ez_fld (c := 1) (ez_var 0) T.cl_Lines T.no_Lines_costs) (az_cons (ez_var 1) (az_cons (ez_fld (c := 1) (ez_var 0) T.cl_Lines T.no_Lines_room) (az_nil))))) (az_nil)))))),
    fun _ _ _ h => h.2⟩
theorem ok_Lines_add_line (T : Tx K mg q) : FnOk P w K mg base CX0 3 q.f_Lines_add_line q.d_Lines_add_line ["self"] (SpZ K (CIof q) (W_Lines_add_line K (CIof q))) :=
  fnz_ok T.F_Lines_add_line sc_Lines_add_line (fun _ _ _ h => h.1) fun cdv A outer s H E hr => ⟨z_Lines_add_line K (CIof q),
    szs_cons (sz_set (i := 1) sc_Lines_add_line.nd (ez_op oz_add (ez_ix (ez_fld (c := 1) (ez_var 0) T.cl_Lines T.no_Lines_starts) (ez_neg (ez_int))) (ez_meth (c := 1) (ez_var 0) T.cl_Lines T.me_Lines_length_at (ok_Lines_length_at T) (hr.mono (by decide)) T.b_Lines_length_at (az_cons (ez_op oz_mod (ez_ix (ez_fld (c := 1) (ez_var 0) T.cl_Lines T.no_Lines_starts) (ez_neg (ez_int))) (ez_fld (c := 1) (ez_var 0) T.cl_Lines T.no_Lines_wide)) (az_nil)))))
    (szs_cons (sz_setLcX (i := 2) (own := [("start", 3)]) sc_Lines_add_line.nd rfl rfl (sw_true rfl rfl rfl (by decide +kernel)) (iz_list (ez_fld (c := 1) (ez_var 0) T.cl_Lines T.no_Lines_starts)) (blkOk_by (N := N_Lines_add_line) (sc := defScope s_Lines_add_line) (by decide +kernel)) (own_name (i := 3) (by decide)) (blkz (ref_gName) (fun _ _ _ _ _ => pg_name (i := 3) sc_Lines_add_line.nd rfl (by first | exact Or.inl rfl | exact Or.inr rfl) (by first | exact Or.inl rfl | exact Or.inr rfl)) (fun _ _ _ _ _ => tsz_nil) (fun _ _ _ _ _ => ez_op oz_mod (ez_var 3) (ez_fld (c := 1) (ez_var 0) T.cl_Lines T.no_Lines_wide))))
    (szs_cons (sz_expr (ez_append (ez_fld (c := 1) (ez_var 0) T.cl_Lines T.no_Lines_starts) (az_cons (ez_var 1) (az_nil))))
    (szs_one (sz_if (tz_cmp oz_in (ez_op oz_mod (ez_var 1) (ez_fld (c := 1) (ez_var 0) T.cl_Lines T.no_Lines_wide)) (ez_var 2)) (szs_one (sz_setF (c := 1) (ez_var 0) (ez_index (ez_var 2) (az_cons (ez_op oz_mod (ez_var 1) (ez_fld (c := 1) (ez_var 0) T.cl_Lines T.no_Lines_wide)) (az_nil))) T.cl_Lines T.no_Lines_again)) (szs_nil))))),
    fun _ _ _ h => h.2⟩
theorem ok_Lines_d_init_d (T : Tx K mg q) : FnOk P w K mg base CX0 4 q.f_Lines_d_init_d q.d_Lines_d_init_d ["self", "boxes", "gap", "times", "whole"] (SpZ K (CIof q) (W_Lines_d_init_d K (CIof q))) :=
  fnz_ok T.F_Lines_d_init_d sc_Lines_d_init_d (fun _ _ _ h => h.1) fun cdv A outer s H E hr => ⟨z_Lines_d_init_d K (CIof q),
    szs_cons (sz_setF (c := 1) (ez_var 0) (ez_callB cz_len T.n_len (by decide +kernel) (az_cons (ez_var 1) (az_nil))) T.cl_Lines T.no_Lines_wide)
    (szs_cons (sz_setF (c := 1) (ez_var 0) (ez_op oz_mul (ez_callB cz_len T.n_len (by decide +kernel) (az_cons (ez_var 1) (az_nil))) (ez_var 3)) T.cl_Lines T.no_Lines_amount)
    (szs_cons (sz_setF (c := 1) (ez_var 0) (ez_lc (own := [("box", 5)]) sc_Lines_d_init_d.nd (iz_list (ez_var 1)) (blkOk_by (N := N_Lines_d_init_d) (sc := defScope s_Lines_d_init_d) (by decide +kernel)) (own_name (i := 5) (by decide)) (blkz (ref_gName) (fun _ _ _ _ _ => pg_name (i := 5) sc_Lines_d_init_d.nd rfl (by first | exact Or.inl rfl | exact Or.inr rfl) (by first | exact Or.inl rfl | exact Or.inr rfl)) (fun _ _ _ _ _ => tsz_nil) (fun _ _ _ _ _ => ez_op oz_add (ez_prop (c := 0) (ez_var 5) T.cl_Box T.pr_Box_own (ok_Box_own T) (hr.mono (by decide)) T.b_Box_own) (ez_var 2)))) T.cl_Lines T.no_Lines_costs)
    (szs_cons (sz_setF (c := 1) (ez_var 0) (ez_op oz_add (ez_var 4) (ez_var 2)) T.cl_Lines T.no_Lines_room)
    (szs_cons (sz_setF (c := 1) (ez_var 0) (ez_lstC (az_cons (ez_int) (az_nil))) T.cl_Lines T.no_Lines_starts)
    (szs_cons (sz_setF (c := 1) (ez_var 0) (ez_non) T.cl_Lines T.no_Lines_again)
    (szs_one (sz_while (tz_cmp oz_isN (ez_fld (c := 1) (ez_var 0) T.cl_Lines T.no_Lines_again) (ez_non)) (szs_one (sz_expr (ez_meth0 (c := 1) (ez_var 0) T.cl_Lines T.me_Lines_add_line (ok_Lines_add_line T) (hr.mono (by decide)) T.b_Lines_add_line)))))))))),
    fun _ _ _ h => h.2⟩
theorem ok_lines_of (T : Tx K mg q) : FnOk P w K mg base CX0 6 q.f_lines_of q.d_lines_of ["boxes", "gap", "times", "whole"] (SpZ K (CIof q) (W_lines_of K (CIof q))) :=
  fnz_ok T.F_lines_of sc_lines_of (fun _ _ _ h => h.1) fun cdv A outer s H E hr => ⟨z_lines_of K (CIof q),
    szs_cons (sz_expr (ez_calln (ok_check_pattern T) (hr.mono (by decide)) T.m_check_pattern T.F_check_pattern.kp T.b_check_pattern (az_cons (ez_var 0) (az_cons (ez_var 1) (az_cons (ez_var 2) (az_nil))))))
    (szs_cons (sz_expr (ez_calln (ok_check_whole T) (hr.mono (by decide)) T.m_check_whole T.F_check_whole.kp T.b_check_whole (az_cons (ez_var 3) (az_nil))))
    (szs_one (sz_ret (ez_makeX (c := 1) T.mk_Lines (ok_Lines_d_init_d T) (hr.mono (by decide)) T.m_Lines T.b_Lines_d_init_d .nil (fun _ _ _ => .nil) (az_cons (ez_var 0) (az_cons (ez_var 1) (az_cons (ez_var 2) (az_cons (ez_var 3) (az_nil))))))))),
    fun _ _ _ h => h.2⟩
theorem ok_count_lines (T : Tx K mg q) : FnOk P w K mg base CX0 7 q.f_count_lines q.d_count_lines ["boxes", "gap", "times", "whole"] (SpZ K (CIof q) (W_count_lines K (CIof q))) :=
  fnz_ok T.F_count_lines sc_count_lines (fun _ _ _ h => h.1) fun cdv A outer s H E hr => ⟨z_count_lines K (CIof q),
    szs_one (sz_ret (ez_meth0 (c := 1) (ez_calln (ok_lines_of T) (hr.mono (by decide)) T.m_lines_of T.F_lines_of.kp T.b_lines_of (az_cons (ez_var 0) (az_cons (ez_var 1) (az_cons (ez_var 2) (az_cons (ez_var 3) (az_nil)))))) T.cl_Lines T.me_Lines_number (ok_Lines_number T) (hr.mono (by decide)) T.b_Lines_number)),
    fun _ _ _ h => h.2⟩
theorem ok_check_index (T : Tx K mg q) : FnOk P w K mg base CX0 2 q.f_check_index q.d_check_index ["index", "many"] (SpZ K (CIof q) (W_check_index K (CIof q))) :=
  fnz_ok T.F_check_index sc_check_index (fun _ _ _ h => h.1) fun cdv A outer s H E hr => ⟨z_check_index K (CIof q),
    szs_one (sz_if ((wz_or (tz_not (tz_val (ez_calln (ok_is_int T) (hr.mono (by decide)) T.m_is_int T.F_is_int.kp T.b_is_int (az_cons (ez_var 0) (az_nil))))) (wz_or1 (tz_not (tz_chain oz_le oz_lt (ez_int) (ez_var 0) (ez_var 1))))).tz) (szs_one (sz_never)) (szs_nil)),
    fun _ _ _ h => h.2⟩
theorem ok_Lines_begin (T : Tx K mg q) : FnOk P w K mg base CX0 2 q.f_Lines_begin q.d_Lines_begin ["self", "index"] (SpZ K (CIof q) (W_Lines_begin K (CIof q))) :=
  fnz_ok T.F_Lines_begin sc_Lines_begin (fun _ _ _ h => h.1) fun cdv A outer s H E hr => ⟨z_Lines_begin K (CIof q),
    szs_cons (sz_if (tz_cmp oz_lt (ez_var 1) (ez_callB cz_len T.n_len (by decide +kernel) (az_cons (ez_fld (c := 1) (ez_var 0) T.cl_Lines T.no_Lines_starts) (az_nil)))) (szs_one (sz_ret (ez_ix (ez_fld (c := 1) (ez_var 0) T.cl_Lines T.no_Lines_starts) (ez_var 1)))) (szs_nil))
    (szs_cons (sz_asg (ez_meth0 (c := 1) (ez_var 0) T.cl_Lines T.me_Lines_turn (ok_Lines_turn T) (hr.mono (by decide)) T.b_Lines_turn) (gz_tup (gsz_cons (gz_name (i := 2) sc_Lines_begin.nd rfl) (gsz_cons (gz_name (i := 3) sc_Lines_begin.nd rfl) (gsz_nil)))))
    (szs_cons (sz_asg (ez_callB cz_divmod T.n_divmod (by decide +kernel) (az_cons (ez_op oz_sub (ez_var 1) (ez_fld (c := 1) (ez_var 0) T.cl_Lines T.no_Lines_again)) (az_cons (ez_var 2) (az_nil)))) (gz_tup (gsz_cons (gz_name (i := 4) sc_Lines_begin.nd rfl) (gsz_cons (gz_name (i := 5) sc_Lines_begin.nd rfl) (gsz_nil)))))
    (szs_one (sz_ret (ez_op oz_add (ez_ix (ez_fld (c := 1) (ez_var 0) T.cl_Lines T.no_Lines_starts) (ez_op oz_add (ez_fld (c := 1) (ez_var 0) T.cl_Lines T.no_Lines_again) (ez_var 5))) (ez_op oz_mul (ez_var 4) (ez_var 3))))))),
    fun _ _ _ h => h.2⟩
theorem ok_line_of (T : Tx K mg q) : FnOk P w K mg base CX0 7 q.f_line_of q.d_line_of ["boxes", "gap", "times", "whole", "index"] (SpZ K (CIof q) (W_line_of K (CIof q))) :=
  fnz_ok T.F_line_of sc_line_of (fun _ _ _ h => h.1) fun cdv A outer s H E hr => ⟨z_line_of K (CIof q),
    szs_cons (sz_set (i := 5) sc_line_of.nd (ez_calln (ok_lines_of T) (hr.mono (by decide)) T.m_lines_of T.F_lines_of.kp T.b_lines_of (az_cons (ez_var 0) (az_cons (ez_var 1) (az_cons (ez_var 2) (az_cons (ez_var 3) (az_nil)))))))
    (szs_cons (sz_expr (ez_calln (ok_check_index T) (hr.mono (by decide)) T.m_check_index T.F_check_index.kp T.b_check_index (az_cons (ez_var 4) (az_cons (ez_fld (c := 1) (ez_var 5) T.cl_Lines T.no_Lines_amount) (az_nil)))))
    (szs_cons (sz_set (i := 6) sc_line_of.nd (ez_meth (c := 1) (ez_var 5) T.cl_Lines T.me_Lines_line_with (ok_Lines_line_with T) (hr.mono (by decide)) T.b_Lines_line_with (az_cons (ez_var 4) (az_nil))))
    (szs_one (sz_ret (ez_tup (az_cons (ez_var 6) (az_cons (ez_op oz_sub (ez_var 4) (ez_meth (c := 1) (ez_var 5) T.cl_Lines T.me_Lines_begin (ok_Lines_begin T) (hr.mono (by decide)) T.b_Lines_begin (az_cons (ez_var 6) (az_nil)))) (az_nil)))))))),
    fun _ _ _ h => h.2⟩
theorem ok_Lines_length (T : Tx K mg q) : FnOk P w K mg base CX0 3 q.f_Lines_length q.d_Lines_length ["self", "index"] (SpZ K (CIof q) (W_Lines_length K (CIof q))) :=
  fnz_ok T.F_Lines_length sc_Lines_length (fun _ _ _ h => h.1) fun cdv A outer s H E hr => ⟨z_Lines_length K (CIof q),
    szs_cons (sz_set (i := 2) sc_Lines_length.nd (ez_meth (c := 1) (ez_var 0) T.cl_Lines T.me_Lines_begin (ok_Lines_begin T) (hr.mono (by decide)) T.b_Lines_begin (az_cons (ez_var 1) (az_nil))))
    (szs_one (sz_ret (ez_callB (cz_min2 rfl) T.n_min (by decide +kernel) (az_cons (ez_meth (c := 1) (ez_var 0) T.cl_Lines T.me_Lines_length_at (ok_Lines_length_at T) (hr.mono (by decide)) T.b_Lines_length_at (az_cons (ez_op oz_mod (ez_var 2) (ez_fld (c := 1) (ez_var 0) T.cl_Lines T.no_Lines_wide)) (az_nil))) (az_cons (ez_op oz_sub (ez_fld (c := 1) (ez_var 0) T.cl_Lines T.no_Lines_amount) (ez_var 2)) (az_nil)))))),
    fun _ _ _ h => h.2⟩
theorem ok_line_at (T : Tx K mg q) : FnOk P w K mg base CX0 7 q.f_line_at q.d_line_at ["boxes", "gap", "times", "whole", "index"] (SpZ K (CIof q) (W_line_at K (CIof q))) :=
  fnz_ok T.F_line_at sc_line_at (fun _ _ _ h => h.1) fun cdv A outer s H E hr => ⟨z_line_at K (CIof q),
    szs_cons (sz_set (i := 5) sc_line_at.nd (ez_calln (ok_lines_of T) (hr.mono (by decide)) T.m_lines_of T.F_lines_of.kp T.b_lines_of (az_cons (ez_var 0) (az_cons (ez_var 1) (az_cons (ez_var 2) (az_cons (ez_var 3) (az_nil)))))))
    (szs_cons (sz_expr (ez_calln (ok_check_index T) (hr.mono (by decide)) T.m_check_index T.F_check_index.kp T.b_check_index (az_cons (ez_var 4) (az_cons (ez_meth0 (c := 1) (ez_var 5) T.cl_Lines T.me_Lines_number (ok_Lines_number T) (hr.mono (by decide)) T.b_Lines_number) (az_nil)))))
    (szs_one (sz_ret (ez_tup (az_cons (ez_meth (c := 1) (ez_var 5) T.cl_Lines T.me_Lines_begin (ok_Lines_begin T) (hr.mono (by decide)) T.b_Lines_begin (az_cons (ez_var 4) (az_nil))) (az_cons (ez_meth (c := 1) (ez_var 5) T.cl_Lines T.me_Lines_length (ok_Lines_length T) (hr.mono (by decide)) T.b_Lines_length (az_cons (ez_var 4) (az_nil))) (az_nil))))))),
    fun _ _ _ h => h.2⟩
theorem ok__law_sum (T : Tx K mg q) : FnOk P w K mg base CX0 1 q.f__law_sum q.d__law_sum ["widths", "first", "many"] (SpZ K (CIof q) (W__law_sum K (CIof q))) :=
  fnz_ok T.F__law_sum sc__law_sum (fun _ _ _ h => h.1) fun cdv A outer s H E hr => ⟨z__law_sum K (CIof q),
    szs_cons (sz_par (i := 3) (j := 4) sc__law_sum.nd rfl rfl (by decide) rfl rfl (az_cons (ez_op oz_fdiv (ez_var 2) (ez_callB cz_len T.n_len (by decide +kernel) (az_cons (ez_var 0) (az_nil)))) (az_cons (ez_op oz_mod (ez_var 2) (ez_callB cz_len T.n_len (by decide +kernel) (az_cons (ez_var 0) (az_nil)))) (az_nil))))
    (szs_cons (sz_set (i := 5) sc__law_sum.nd (ez_op oz_mod (ez_var 1) (ez_callB cz_len T.n_len (by decide +kernel) (az_cons (ez_var 0) (az_nil)))))
    (szs_cons (sz_set (i := 6) sc__law_sum.nd (ez_sl (ez_op oz_cat (ez_var 0) (ez_var 0)) (oz_some (ez_var 5)) (oz_some (ez_op oz_add (ez_var 5) (ez_var 4)))))
    (szs_one (sz_ret (ez_op oz_add (ez_op oz_mul (ez_var 3) (ez_callB (cz_sum rfl) T.n_sum (by decide +kernel) (az_cons (ez_var 0) (az_nil)))) (ez_callB (cz_sum rfl) T.n_sum (by decide +kernel) (az_cons (ez_var 6) (az_nil)))))))),
    fun _ _ _ h => h.2⟩
theorem ok__law_line_right (T : Tx K mg q) : FnOk P w K mg base CX0 8 q.f__law_line_right q.d__law_line_right ["told", "widths", "gap", "whole_here", "line"] (SpZ K (CIof q) (W__law_line_right K (CIof q))) :=
  fnz_ok T.F__law_line_right sc__law_line_right (fun _ _ _ h => h.1) fun cdv A outer s H E hr => ⟨z__law_line_right K (CIof q),
    szs_cons (sz_set (i := 5) sc__law_line_right.nd (ez_op oz_mul (ez_callB cz_len T.n_len (by decide +kernel) (az_cons (ez_var 1) (az_nil))) (ez_ix (ez_var 0) (ez_int))))
    (szs_cons (sz_asg (ez_calln (ok_line_at T) (hr.mono (by decide)) T.m_line_at T.F_line_at.kp T.b_line_at (az_cons (ez_ix (ez_var 0) (ez_int)) (az_cons (ez_ix (ez_var 0) (ez_int)) (az_cons (ez_ix (ez_var 0) (ez_int)) (az_cons (ez_var 3) (az_cons (ez_var 4) (az_nil))))))) (gz_tup (gsz_cons (gz_name (i := 6) sc__law_line_right.nd rfl) (gsz_cons (gz_name (i := 7) sc__law_line_right.nd rfl) (gsz_nil)))))
    (szs_cons (sz_if ((wz_or (tz_cmp oz_lt (ez_var 7) (ez_int)) (wz_or (tz_cmp oz_gt (ez_op oz_add (ez_var 6) (ez_var 7)) (ez_var 5)) (wz_or1 (tz_cmp (oz_neD hr.units) (ez_cmp (oz_eqD hr.units) (ez_var 4) (ez_int)) (ez_cmp (oz_eqD hr.units) (ez_var 6) (ez_int)))))).tz) (szs_one (sz_ret (ez_bl))) (szs_nil))
    (szs_cons (sz_if ((wz_and (tz_cmp oz_gt (ez_var 4) (ez_int)) (wz_and1 (tz_cmp (oz_neD hr.units) (ez_callB (cz_sumA rfl) T.n_sum (by decide +kernel) (az_cons (ez_calln (ok_line_at T) (hr.mono (by decide)) T.m_line_at T.F_line_at.kp T.b_line_at (az_cons (ez_ix (ez_var 0) (ez_int)) (az_cons (ez_ix (ez_var 0) (ez_int)) (az_cons (ez_ix (ez_var 0) (ez_int)) (az_cons (ez_var 3) (az_cons (ez_op oz_sub (ez_var 4) (ez_int)) (az_nil))))))) (az_nil))) (ez_var 6)))).tz) (szs_one (sz_ret (ez_bl))) (szs_nil))
    (szs_cons (sz_if ((wz_and (tz_cmp oz_gt (ez_var 7) (ez_int)) (wz_and1 (tz_cmp oz_gt (ez_op oz_add (ez_calln (ok__law_sum T) (hr.mono (by decide)) T.m__law_sum T.F__law_sum.kp T.b__law_sum (az_cons (ez_var 1) (az_cons (ez_var 6) (az_cons (ez_var 7) (az_nil))))) (ez_op oz_mul (ez_var 2) (ez_op oz_sub (ez_var 7) (ez_int)))) (ez_var 3)))).tz) (szs_one (sz_ret (ez_bl))) (szs_nil))
    (szs_cons (sz_if ((wz_and (tz_cmp oz_lt (ez_op oz_add (ez_var 6) (ez_var 7)) (ez_var 5)) (wz_and1 (tz_cmp oz_le (ez_op oz_add (ez_calln (ok__law_sum T) (hr.mono (by decide)) T.m__law_sum T.F__law_sum.kp T.b__law_sum (az_cons (ez_var 1) (az_cons (ez_var 6) (az_cons (ez_op oz_add (ez_var 7) (ez_int)) (az_nil))))) (ez_op oz_mul (ez_var 2) (ez_var 7))) (ez_var 3)))).tz) (szs_one (sz_ret (ez_bl))) (szs_nil))
    (szs_cons (sz_for (iz_tup (ez_tup (az_cons (ez_int) (az_cons (ez_op oz_sub (ez_var 7) (ez_int)) (az_cons (ez_op oz_fdiv (ez_var 7) (ez_int)) (az_nil)))))) (gz_name (i := 8) sc__law_line_right.nd rfl) (szs_one (sz_if (tz_cmp (oz_neD hr.units) (ez_calln (ok_line_of T) (hr.mono (by decide)) T.m_line_of T.F_line_of.kp T.b_line_of (az_cons (ez_ix (ez_var 0) (ez_int)) (az_cons (ez_ix (ez_var 0) (ez_int)) (az_cons (ez_ix (ez_var 0) (ez_int)) (az_cons (ez_var 3) (az_cons (ez_op oz_add (ez_var 6) (ez_var 8)) (az_nil))))))) (ez_tup (az_cons (ez_var 4) (az_cons (ez_var 8) (az_nil))))) (szs_one (sz_ret (ez_bl))) (szs_nil))))
    (szs_one (sz_ret (ez_bl))))))))),
    fun _ _ _ h => h.2⟩
theorem ok__law_right (T : Tx K mg q) : FnOk P w K mg base CX0 9 q.f__law_right q.d__law_right ["crib", "pattern", "most"] (SpZ K (CIof q) (W__law_right K (CIof q))) :=
  fnz_ok T.F__law_right sc__law_right (fun _ _ _ h => h.1) fun cdv A outer s H E hr => ⟨z__law_right K (CIof q),
    szs_cons (sz_par (i := 3) (j := 4) sc__law_right.nd rfl rfl (by decide) rfl rfl (az_cons (ez_calln (ok__law_made T) (hr.mono (by decide)) T.m__law_made T.F__law_made.kp T.b__law_made (az_cons (ez_var 1) (az_nil))) (az_cons (ez_ix (ez_lst (az_cons (ez_int) (az_cons (ez_calln (ok__law_pluck T) (hr.mono (by decide)) T.m__law_pluck T.F__law_pluck.kp T.b__law_pluck (az_cons (ez_var 0) (az_cons (ez_int) (az_nil)))) (az_cons (ez_calln (ok__law_pluck T) (hr.mono (by decide)) T.m__law_pluck T.F__law_pluck.kp T.b__law_pluck (az_cons (ez_var 0) (az_cons (ez_op oz_add (ez_var 2) (ez_int)) (az_nil)))) (az_nil))))) (ez_calln (ok__law_pluck T) (hr.mono (by decide)) T.m__law_pluck T.F__law_pluck.kp T.b__law_pluck (az_cons (ez_var 0) (az_cons (ez_int) (az_nil))))) (az_nil))))
    (szs_cons (sz_set (i := 5) sc__law_right.nd (ez_ix (ez_lst (az_cons (ez_op oz_pow (ez_int) (ez_int)) (az_cons (ez_op oz_add (ez_int) (ez_calln (ok__law_pluck T) (hr.mono (by decide)) T.m__law_pluck T.F__law_pluck.kp T.b__law_pluck (az_cons (ez_var 0) (az_cons (ez_op oz_pow (ez_int) (ez_int)) (az_nil))))) (az_cons (ez_op oz_add (ez_int) (ez_calln (ok__law_pluck T) (hr.mono (by decide)) T.m__law_pluck T.F__law_pluck.kp T.b__law_pluck (az_cons (ez_var 0) (az_cons (ez_int) (az_nil))))) (az_nil))))) (ez_calln (ok__law_pluck T) (hr.mono (by decide)) T.m__law_pluck T.F__law_pluck.kp T.b__law_pluck (az_cons (ez_var 0) (az_cons (ez_int) (az_nil))))))
    (szs_cons (sz_setLc (i := 6) (own := [("numbers", 16)]) sc__law_right.nd rfl rfl (sw_true rfl rfl rfl (by decide +kernel)) (iz_list (ez_var 1)) (blkOk_by (N := N__law_right) (sc := defScope s__law_right) (by decide +kernel)) (own_name (i := 16) (by decide)) (blkz (ref_gName) (fun _ _ _ _ _ => pg_name (i := 16) sc__law_right.nd rfl (by first | exact Or.inl rfl | exact Or.inr rfl) (by first | exact Or.inl rfl | exact Or.inr rfl)) (fun _ _ _ _ _ => tsz_nil) (fun _ _ _ _ _ => ez_calln (ok__law_own T) (hr.mono (by decide)) T.m__law_own T.F__law_own.kp T.b__law_own (az_cons (ez_var 16) (az_nil)))))
    (szs_cons (sz_set (i := 7) sc__law_right.nd (ez_op oz_add (ez_callB (cz_sum rfl) T.n_sum (by decide +kernel) (az_cons (ez_var 6) (az_nil))) (ez_op oz_mul (ez_var 4) (ez_callB cz_len T.n_len (by decide +kernel) (az_cons (ez_var 6) (az_nil))))))
    (szs_cons (sz_set (i := 8) sc__law_right.nd (ez_lst (az_cons (ez_calln (ok__law_pluck T) (hr.mono (by decide)) T.m__law_pluck T.F__law_pluck.kp T.b__law_pluck (az_cons (ez_var 0) (az_cons (ez_op oz_add (ez_var 7) (ez_int)) (az_nil)))) (az_cons (ez_callB (cz_max1 rfl) T.n_max (by decide +kernel) (az_cons (ez_var 6) (az_nil))) (az_cons (ez_op oz_add (ez_op oz_mul (ez_var 7) (ez_calln (ok__law_pluck T) (hr.mono (by decide)) T.m__law_pluck T.F__law_pluck.kp T.b__law_pluck (az_cons (ez_var 0) (az_cons (ez_int) (az_nil))))) (ez_calln (ok__law_pluck T) (hr.mono (by decide)) T.m__law_pluck T.F__law_pluck.kp T.b__law_pluck (az_cons (ez_var 0) (az_cons (ez_op oz_add (ez_var 7) (ez_int)) (az_nil))))) (az_nil))))))
    (szs_cons (sz_set (i := 8) sc__law_right.nd (ez_op oz_cat (ez_var 8) (ez_lst (az_cons (ez_op oz_mul (ez_var 7) (ez_calln (ok__law_pluck T) (hr.mono (by decide)) T.m__law_pluck T.F__law_pluck.kp T.b__law_pluck (az_cons (ez_var 0) (az_cons (ez_op oz_pow (ez_int) (ez_int)) (az_nil))))) (az_cons (ez_int) (az_nil))))))
    (szs_cons (sz_for (iz_r1 (az_cons (ez_int) (az_nil)) T.n_range) (gz_name (i := 9) sc__law_right.nd rfl) (szs_cons (sz_set (i := 10) sc__law_right.nd (ez_ix (ez_var 8) (ez_calln (ok__law_pluck T) (hr.mono (by decide)) T.m__law_pluck T.F__law_pluck.kp T.b__law_pluck (az_cons (ez_var 0) (az_cons (ez_int) (az_nil))))))
    (szs_cons (sz_set (i := 11) sc__law_right.nd (ez_tup (az_cons (ez_var 3) (az_cons (ez_var 4) (az_cons (ez_var 5) (az_nil))))))
    (szs_cons (sz_set (i := 12) sc__law_right.nd (ez_calln (ok_count_lines T) (hr.mono (by decide)) T.m_count_lines T.F_count_lines.kp T.b_count_lines (az_cons (ez_var 3) (az_cons (ez_var 4) (az_cons (ez_var 5) (az_cons (ez_var 10) (az_nil)))))))
    (szs_cons (sz_set (i := 13) sc__law_right.nd (ez_calln (ok_line_of T) (hr.mono (by decide)) T.m_line_of T.F_line_of.kp T.b_line_of (az_cons (ez_var 3) (az_cons (ez_var 4) (az_cons (ez_var 5) (az_cons (ez_var 10) (az_cons (ez_op oz_sub (ez_op oz_mul (ez_callB cz_len T.n_len (by decide +kernel) (az_cons (ez_var 1) (az_nil))) (ez_var 5)) (ez_int)) (az_nil))))))))
    (szs_cons (sz_set (i := 14) sc__law_right.nd (ez_callB (cz_sumA rfl) T.n_sum (by decide +kernel) (az_cons (ez_calln (ok_line_at T) (hr.mono (by decide)) T.m_line_at T.F_line_at.kp T.b_line_at (az_cons (ez_var 3) (az_cons (ez_var 4) (az_cons (ez_var 5) (az_cons (ez_var 10) (az_cons (ez_op oz_sub (ez_var 12) (ez_int)) (az_nil))))))) (az_nil))))
    (szs_cons (sz_if ((wz_or (tz_cmp (oz_neD hr.units) (ez_ix (ez_var 13) (ez_int)) (ez_op oz_sub (ez_var 12) (ez_int))) (wz_or1 (tz_cmp (oz_neD hr.units) (ez_var 14) (ez_op oz_mul (ez_callB cz_len T.n_len (by decide +kernel) (az_cons (ez_var 1) (az_nil))) (ez_var 5))))).tz) (szs_one (sz_ret (ez_bl))) (szs_nil))
    (szs_one (sz_for (iz_list (ez_lst (az_cons (ez_int) (az_cons (ez_op oz_sub (ez_var 12) (ez_int)) (az_cons (ez_calln (ok__law_pluck T) (hr.mono (by decide)) T.m__law_pluck T.F__law_pluck.kp T.b__law_pluck (az_cons (ez_var 0) (az_cons (ez_var 12) (az_nil)))) (az_cons (ez_callB (cz_min2 rfl) T.n_min (by decide +kernel) (az_cons (ez_op oz_sub (ez_var 12) (ez_int)) (az_cons (ez_calln (ok__law_pluck T) (hr.mono (by decide)) T.m__law_pluck T.F__law_pluck.kp T.b__law_pluck (az_cons (ez_var 0) (az_cons (ez_int) (az_nil)))) (az_nil)))) (az_nil))))))) (gz_name (i := 15) sc__law_right.nd rfl) (szs_one (sz_if (tz_not (tz_val (ez_calln (ok__law_line_right T) (hr.mono (by decide)) T.m__law_line_right T.F__law_line_right.kp T.b__law_line_right (az_cons (ez_var 11) (az_cons (ez_var 6) (az_cons (ez_var 4) (az_cons (ez_var 10) (az_cons (ez_var 15) (az_nil))))))))) (szs_one (sz_ret (ez_bl))) (szs_nil))))))))))))
    (szs_one (sz_ret (ez_bl))))))))),
    fun _ _ _ h => h.2⟩
theorem ok__law_width (T : Tx K mg q) : FnOk P w K mg base CX0 2 q.f__law_width q.d__law_width ["crib", "most"] (SpZ K (CIof q) (W__law_width K (CIof q))) :=
  fnz_ok T.F__law_width sc__law_width (fun _ _ _ h => h.1) fun cdv A outer s H E hr => ⟨z__law_width K (CIof q),
    szs_cons (sz_set (i := 2) sc__law_width.nd (ez_lst (az_cons (ez_calln (ok__law_pluck T) (hr.mono (by decide)) T.m__law_pluck T.F__law_pluck.kp T.b__law_pluck (az_cons (ez_var 0) (az_cons (ez_int) (az_nil)))) (az_cons (ez_calln (ok__law_pluck T) (hr.mono (by decide)) T.m__law_pluck T.F__law_pluck.kp T.b__law_pluck (az_cons (ez_var 0) (az_cons (ez_op oz_add (ez_var 1) (ez_int)) (az_nil)))) (az_cons (ez_calln (ok__law_pluck T) (hr.mono (by decide)) T.m__law_pluck T.F__law_pluck.kp T.b__law_pluck (az_cons (ez_var 0) (az_cons (ez_op oz_add (ez_callB (cz_min2 rfl) T.n_min (by decide +kernel) (az_cons (ez_var 1) (az_cons (ez_int) (az_nil)))) (ez_int)) (az_nil)))) (az_cons (ez_var 1) (az_nil)))))))
    (szs_one (sz_ret (ez_callB (cz_min2 rfl) T.n_min (by decide +kernel) (az_cons (ez_var 1) (az_cons (ez_ix (ez_var 2) (ez_calln (ok__law_pluck T) (hr.mono (by decide)) T.m__law_pluck T.F__law_pluck.kp T.b__law_pluck (az_cons (ez_var 0) (az_cons (ez_int) (az_nil))))) (az_nil)))))),
    fun _ _ _ h => h.2⟩
theorem ok__law_weight (T : Tx K mg q) : FnOk P w K mg base CX0 2 q.f__law_weight q.d__law_weight ["crib", "heavy"] (SpZ K (CIof q) (W__law_weight K (CIof q))) :=
  fnz_ok T.F__law_weight sc__law_weight (fun _ _ _ h => h.1) fun cdv A outer s H E hr => ⟨z__law_weight K (CIof q),
    szs_one (sz_ret (ez_ix (ez_lst (az_cons (ez_int) (az_cons (ez_int) (az_cons (ez_op oz_add (ez_int) (ez_calln (ok__law_pluck T) (hr.mono (by decide)) T.m__law_pluck T.F__law_pluck.kp T.b__law_pluck (az_cons (ez_var 0) (az_cons (ez_int) (az_nil))))) (az_cons (ez_calln (ok__law_pluck T) (hr.mono (by decide)) T.m__law_pluck T.F__law_pluck.kp T.b__law_pluck (az_cons (ez_var 0) (az_cons (ez_op oz_add (ez_var 1) (ez_int)) (az_nil)))) (az_nil)))))) (ez_calln (ok__law_pluck T) (hr.mono (by decide)) T.m__law_pluck T.F__law_pluck.kp T.b__law_pluck (az_cons (ez_var 0) (az_cons (ez_int) (az_nil)))))),
    fun _ _ _ h => h.2⟩
theorem ok__law_box (T : Tx K mg q) : FnOk P w K mg base CX0 3 q.f__law_box q.d__law_box ["crib", "most", "heavy"] (SpZ K (CIof q) (W__law_box K (CIof q))) :=
  fnz_ok T.F__law_box sc__law_box (fun _ _ _ h => h.1) fun cdv A outer s H E hr => ⟨z__law_box K (CIof q),
    szs_cons (sz_set (i := 3) sc__law_box.nd (ez_ix (ez_lst (az_cons (ez_int) (az_cons (ez_calln (ok__law_width T) (hr.mono (by decide)) T.m__law_width T.F__law_width.kp T.b__law_width (az_cons (ez_var 0) (az_cons (ez_var 1) (az_nil)))) (az_nil)))) (ez_calln (ok__law_pluck T) (hr.mono (by decide)) T.m__law_pluck T.F__law_pluck.kp T.b__law_pluck (az_cons (ez_var 0) (az_cons (ez_int) (az_nil))))))
    (szs_cons (sz_set (i := 4) sc__law_box.nd (ez_ix (ez_lst (az_cons (ez_non) (az_cons (ez_non) (az_cons (ez_var 3) (az_cons (ez_op oz_add (ez_var 3) (ez_calln (ok__law_pluck T) (hr.mono (by decide)) T.m__law_pluck T.F__law_pluck.kp T.b__law_pluck (az_cons (ez_var 0) (az_cons (ez_op oz_add (ez_op oz_sub (ez_var 1) (ez_var 3)) (ez_int)) (az_nil))))) (az_nil)))))) (ez_calln (ok__law_pluck T) (hr.mono (by decide)) T.m__law_pluck T.F__law_pluck.kp T.b__law_pluck (az_cons (ez_var 0) (az_cons (ez_int) (az_nil))))))
    (szs_one (sz_ret (ez_tup (az_cons (ez_calln (ok__law_width T) (hr.mono (by decide)) T.m__law_width T.F__law_width.kp T.b__law_width (az_cons (ez_var 0) (az_cons (ez_var 1) (az_nil)))) (az_cons (ez_var 3) (az_cons (ez_var 4) (az_cons (ez_calln (ok__law_weight T) (hr.mono (by decide)) T.m__law_weight T.F__law_weight.kp T.b__law_weight (az_cons (ez_var 0) (az_cons (ez_var 2) (az_nil)))) (az_cons (ez_calln (ok__law_weight T) (hr.mono (by decide)) T.m__law_weight T.F__law_weight.kp T.b__law_weight (az_cons (ez_var 0) (az_cons (ez_var 2) (az_nil)))) (az_nil)))))))))),
    fun _ _ _ h => h.2⟩
theorem ok__law_pattern (T : Tx K mg q) : FnOk P w K mg base CX0 4 q.f__law_pattern q.d__law_pattern ["crib", "many", "most"] (SpZ K (CIof q) (W__law_pattern K (CIof q))) :=
  fnz_ok T.F__law_pattern sc__law_pattern (fun _ _ _ h => h.1) fun cdv A outer s H E hr => ⟨z__law_pattern K (CIof q),
    szs_cons (sz_set (i := 3) sc__law_pattern.nd (ez_lstC (az_nil)))
    (szs_cons (sz_for (iz_r1 (az_cons (ez_var 1) (az_nil)) T.n_range) (gz_name (i := 4) sc__law_pattern.nd rfl) (szs_cons (sz_set (i := 5) sc__law_pattern.nd (ez_calln (ok__law_box T) (hr.mono (by decide)) T.m__law_box T.F__law_box.kp T.b__law_box (az_cons (ez_var 0) (az_cons (ez_var 2) (az_cons (ez_ix (ez_lst (az_cons (ez_int) (az_cons (ez_op oz_pow (ez_int) (ez_int)) (az_nil)))) (ez_calln (ok__law_pluck T) (hr.mono (by decide)) T.m__law_pluck T.F__law_pluck.kp T.b__law_pluck (az_cons (ez_var 0) (az_cons (ez_int) (az_nil))))) (az_nil))))))
    (szs_one (sz_expr (ez_append (ez_var 3) (az_cons (ez_if (tz_cmp (oz_eqD hr.units) (ez_calln (ok__law_pluck T) (hr.mono (by decide)) T.m__law_pluck T.F__law_pluck.kp T.b__law_pluck (az_cons (ez_var 0) (az_cons (ez_int) (az_nil)))) (ez_int)) (ez_op oz_catT (ez_tup (az_cons (ez_int) (az_cons (ez_int) (az_nil)))) (ez_slT (ez_var 5) (oz_some (ez_int)) oz_none)) (ez_var 5)) (az_nil)))))))
    (szs_one (sz_ret (ez_var 3)))),
    fun _ _ _ h => h.2⟩
theorem ok_law (T : Tx K mg q) : FnOk P w K mg base CX0 10 q.f_law q.d_law ["script"] (SpZ K (CIof q) (W_law K (CIof q))) :=
  fnz_ok T.F_law sc_law (fun _ _ _ h => h.1) fun cdv A outer s H E hr => ⟨z_law K (CIof q),
    szs_cons (sz_for (iz_r1 (az_cons (ez_callB (cz_max2 rfl) T.n_max (by decide +kernel) (az_cons (ez_int) (az_cons (ez_callB (cz_min2 rfl) T.n_min (by decide +kernel) (az_cons (ez_int) (az_cons (ez_callB cz_len T.n_len (by decide +kernel) (az_cons (ez_var 0) (az_nil))) (az_nil)))) (az_nil)))) (az_nil)) T.n_range) (gz_name (i := 1) sc_law.nd rfl) (szs_cons (sz_set (i := 2) sc_law.nd (ez_calln (ok__law_crib T) (hr.mono (by decide)) T.m__law_crib T.F__law_crib.kp T.b__law_crib (az_cons (ez_var 0) (az_cons (ez_var 1) (az_nil)))))
    (szs_cons (sz_set (i := 3) sc_law.nd (ez_lstC (az_cons (ez_tup (az_cons (ez_op oz_add (ez_int) (ez_calln (ok__law_pluck T) (hr.mono (by decide)) T.m__law_pluck T.F__law_pluck.kp T.b__law_pluck (az_cons (ez_var 2) (az_cons (ez_int) (az_nil))))) (az_cons (ez_op oz_pow (ez_int) (ez_int)) (az_nil)))) (az_cons (ez_tup (az_cons (ez_op oz_add (ez_int) (ez_calln (ok__law_pluck T) (hr.mono (by decide)) T.m__law_pluck T.F__law_pluck.kp T.b__law_pluck (az_cons (ez_var 2) (az_cons (ez_int) (az_nil))))) (az_cons (ez_int) (az_nil)))) (az_nil)))))
    (szs_cons (sz_if (tz_cmp (oz_eqD hr.units) (ez_var 1) (ez_int)) (szs_one (sz_expr (ez_append (ez_var 3) (az_cons (ez_tup (az_cons (ez_int) (az_cons (ez_int) (az_nil)))) (az_nil))))) (szs_nil))
    (szs_one (sz_forC (ez_var 3) (gz_tup (gsz_cons (gz_name (i := 4) sc_law.nd rfl) (gsz_cons (gz_name (i := 5) sc_law.nd rfl) (gsz_nil)))) (szs_one (sz_if (tz_not (tz_val (ez_calln (ok__law_right T) (hr.mono (by decide)) T.m__law_right T.F__law_right.kp T.b__law_right (az_cons (ez_var 2) (az_cons (ez_calln (fn_frzM (ok__law_pattern T)) (hr.mono (by decide)) T.m__law_pattern T.F__law_pattern.kp T.b__law_pattern (az_cons (ez_var 2) (az_cons (ez_var 4) (az_cons (ez_var 5) (az_nil))))) (az_cons (ez_var 5) (az_nil))))))) (szs_one (sz_ret (ez_bl))) (szs_nil)))))))))
    (szs_cons (sz_set (i := 6) sc_law.nd (ez_lst (az_cons (ez_makeD (c := 0) T.mk_Box (ok_Box_d_init_d T) (hr.mono (by decide)) T.m_Box T.b4_Box_d_init_d (fun _ _ _ => .cons (.int 0) (.cons .non (.cons (.int 0) (.cons (.int 0) (.nil))))) (az_cons (ez_int) (az_nil))) (az_cons (ez_makeD (c := 0) T.mk_Box (ok_Box_d_init_d T) (hr.mono (by decide)) T.m_Box T.b4_Box_d_init_d (fun _ _ _ => .cons (.int 0) (.cons .non (.cons (.int 0) (.cons (.int 0) (.nil))))) (az_cons (ez_int) (az_nil))) (az_cons (ez_makeD (c := 0) T.mk_Box (ok_Box_d_init_d T) (hr.mono (by decide)) T.m_Box T.b4_Box_d_init_d (fun _ _ _ => .cons (.int 0) (.cons .non (.cons (.int 0) (.cons (.int 0) (.nil))))) (az_cons (ez_int) (az_nil))) (az_nil))))))
    (szs_one (sz_ret (ez_and (ez_cmp (oz_eqD hr.units) (ez_calln (ok_count_lines T) (hr.mono (by decide)) T.m_count_lines T.F_count_lines.kp T.b_count_lines (az_cons (ez_var 6) (az_cons (ez_int) (az_cons (ez_op oz_pow (ez_int) (ez_int)) (az_cons (ez_int) (az_nil)))))) (ez_op oz_mul (ez_int) (ez_op oz_pow (ez_int) (ez_int)))) (ez_one (ez_cmp (oz_eqD hr.units) (ez_calln (ok_count_lines T) (hr.mono (by decide)) T.m_count_lines T.F_count_lines.kp T.b_count_lines (az_cons (ez_lst (az_cons (ez_makeD (c := 0) T.mk_Box (ok_Box_d_init_d T) (hr.mono (by decide)) T.m_Box T.b4_Box_d_init_d (fun _ _ _ => .cons (.int 0) (.cons .non (.cons (.int 0) (.cons (.int 0) (.nil))))) (az_cons (ez_int) (az_nil))) (az_nil))) (az_cons (ez_int) (az_cons (ez_op oz_pow (ez_int) (ez_int)) (az_cons (ez_int) (az_nil)))))) (ez_int))))))),
    fun _ _ _ h => h.2⟩
end
theorem all_mk {l : PySem.W.OpenLaw} {w : World} {K : PySem.W.Frag} {h : Heap} {mg : Str → Option Value} {fa : Addr} (X : K.In h) (G : h.Ns mainGlobals mg) (hfa : mg "law" = some (.ref fa))
    {f__law_crib : Addr} {od__law_crib : Option Addr} {an__law_crib : Option Addr} {sl__law_crib : Array (Option Value)} {oc__law_crib : Value} {kV__law_crib : Value} {dc__law_crib : Value} {pm__law_crib : Value} {cd__law_crib : Value} {ct__law_crib : Value} {f__law_pluck : Addr} {od__law_pluck : Option Addr} {an__law_pluck : Option Addr} {sl__law_pluck : Array (Option Value)} {oc__law_pluck : Value} {kV__law_pluck : Value} {dc__law_pluck : Value} {pm__law_pluck : Value} {cd__law_pluck : Value} {ct__law_pluck : Value} {f_is_int : Addr} {od_is_int : Option Addr} {an_is_int : Option Addr} {sl_is_int : Array (Option Value)} {oc_is_int : Value} {kV_is_int : Value} {dc_is_int : Value} {pm_is_int : Value} {cd_is_int : Value} {ct_is_int : Value} {f_in_bounds : Addr} {od_in_bounds : Option Addr} {an_in_bounds : Option Addr} {sl_in_bounds : Array (Option Value)} {oc_in_bounds : Value} {kV_in_bounds : Value} {dc_in_bounds : Value} {pm_in_bounds : Value} {cd_in_bounds : Value} {ct_in_bounds : Value} {f_are_box_numbers : Addr} {od_are_box_numbers : Option Addr} {an_are_box_numbers : Option Addr} {sl_are_box_numbers : Array (Option Value)} {oc_are_box_numbers : Value} {kV_are_box_numbers : Value} {dc_are_box_numbers : Value} {pm_are_box_numbers : Value} {cd_are_box_numbers : Value} {ct_are_box_numbers : Value} {f_Box_d_init_d : Addr} {od_Box_d_init_d : Option Addr} {an_Box_d_init_d : Option Addr} {sl_Box_d_init_d : Array (Option Value)} {oc_Box_d_init_d : Value} {kV_Box_d_init_d : Value} {dc_Box_d_init_d : Value} {pm_Box_d_init_d : Value} {cd_Box_d_init_d : Value} {ct_Box_d_init_d : Value} {T_Box_d_init_d : Addr} {Tc_Box_d_init_d : Value} {Td_Box_d_init_d : Option Addr} {Tn_Box_d_init_d : Nat} {Ts_Box_d_init_d : Array (Option Value)} {t0_Box_d_init_d : Tok} {t2_Box_d_init_d : Tok} {t3_Box_d_init_d : Tok} {f__law_made : Addr} {od__law_made : Option Addr} {an__law_made : Option Addr} {sl__law_made : Array (Option Value)} {oc__law_made : Value} {kV__law_made : Value} {dc__law_made : Value} {pm__law_made : Value} {cd__law_made : Value} {ct__law_made : Value} {f__law_limit : Addr} {od__law_limit : Option Addr} {an__law_limit : Option Addr} {sl__law_limit : Array (Option Value)} {oc__law_limit : Value} {kV__law_limit : Value} {dc__law_limit : Value} {pm__law_limit : Value} {cd__law_limit : Value} {ct__law_limit : Value} {f__law_own : Addr} {od__law_own : Option Addr} {an__law_own : Option Addr} {sl__law_own : Array (Option Value)} {oc__law_own : Value} {kV__law_own : Value} {dc__law_own : Value} {pm__law_own : Value} {cd__law_own : Value} {ct__law_own : Value} {f_Lines_turn : Addr} {od_Lines_turn : Option Addr} {an_Lines_turn : Option Addr} {sl_Lines_turn : Array (Option Value)} {oc_Lines_turn : Value} {kV_Lines_turn : Value} {dc_Lines_turn : Value} {pm_Lines_turn : Value} {cd_Lines_turn : Value} {ct_Lines_turn : Value} {f_Lines_line_with : Addr} {od_Lines_line_with : Option Addr} {an_Lines_line_with : Option Addr} {sl_Lines_line_with : Array (Option Value)} {oc_Lines_line_with : Value} {kV_Lines_line_with : Value} {dc_Lines_line_with : Value} {pm_Lines_line_with : Value} {cd_Lines_line_with : Value} {ct_Lines_line_with : Value} {f_Lines_number : Addr} {od_Lines_number : Option Addr} {an_Lines_number : Option Addr} {sl_Lines_number : Array (Option Value)} {oc_Lines_number : Value} {kV_Lines_number : Value} {dc_Lines_number : Value} {pm_Lines_number : Value} {cd_Lines_number : Value} {ct_Lines_number : Value} {f_check_boxes : Addr} {od_check_boxes : Option Addr} {an_check_boxes : Option Addr} {sl_check_boxes : Array (Option Value)} {oc_check_boxes : Value} {kV_check_boxes : Value} {dc_check_boxes : Value} {pm_check_boxes : Value} {cd_check_boxes : Value} {ct_check_boxes : Value} {f_check_pattern : Addr} {od_check_pattern : Option Addr} {an_check_pattern : Option Addr} {sl_check_pattern : Array (Option Value)} {oc_check_pattern : Value} {kV_check_pattern : Value} {dc_check_pattern : Value} {pm_check_pattern : Value} {cd_check_pattern : Value} {ct_check_pattern : Value} {f_check_whole : Addr} {od_check_whole : Option Addr} {an_check_whole : Option Addr} {sl_check_whole : Array (Option Value)} {oc_check_whole : Value} {kV_check_whole : Value} {dc_check_whole : Value} {pm_check_whole : Value} {cd_check_whole : Value} {ct_check_whole : Value} {f_limited : Addr} {od_limited : Option Addr} {an_limited : Option Addr} {sl_limited : Array (Option Value)} {oc_limited : Value} {kV_limited : Value} {dc_limited : Value} {pm_limited : Value} {cd_limited : Value} {ct_limited : Value} {f_Box_own : Addr} {od_Box_own : Option Addr} {an_Box_own : Option Addr} {sl_Box_own : Array (Option Value)} {oc_Box_own : Value} {kV_Box_own : Value} {dc_Box_own : Value} {pm_Box_own : Value} {cd_Box_own : Value} {ct_Box_own : Value} {f_boxes_that_fit : Addr} {od_boxes_that_fit : Option Addr} {an_boxes_that_fit : Option Addr} {sl_boxes_that_fit : Array (Option Value)} {oc_boxes_that_fit : Value} {kV_boxes_that_fit : Value} {dc_boxes_that_fit : Value} {pm_boxes_that_fit : Value} {cd_boxes_that_fit : Value} {ct_boxes_that_fit : Value} {f_Lines_length_at : Addr} {od_Lines_length_at : Option Addr} {an_Lines_length_at : Option Addr} {sl_Lines_length_at : Array (Option Value)} {oc_Lines_length_at : Value} {kV_Lines_length_at : Value} {dc_Lines_length_at : Value} {pm_Lines_length_at : Value} {cd_Lines_length_at : Value} {ct_Lines_length_at : Value} {f_Lines_add_line : Addr} {od_Lines_add_line : Option Addr} {an_Lines_add_line : Option Addr} {sl_Lines_add_line : Array (Option Value)} {oc_Lines_add_line : Value} {kV_Lines_add_line : Value} {dc_Lines_add_line : Value} {pm_Lines_add_line : Value} {cd_Lines_add_line : Value} {ct_Lines_add_line : Value} {f_Lines_d_init_d : Addr} {od_Lines_d_init_d : Option Addr} {an_Lines_d_init_d : Option Addr} {sl_Lines_d_init_d : Array (Option Value)} {oc_Lines_d_init_d : Value} {kV_Lines_d_init_d : Value} {dc_Lines_d_init_d : Value} {pm_Lines_d_init_d : Value} {cd_Lines_d_init_d : Value} {ct_Lines_d_init_d : Value} {f_lines_of : Addr} {od_lines_of : Option Addr} {an_lines_of : Option Addr} {sl_lines_of : Array (Option Value)} {oc_lines_of : Value} {kV_lines_of : Value} {dc_lines_of : Value} {pm_lines_of : Value} {cd_lines_of : Value} {ct_lines_of : Value} {f_count_lines : Addr} {od_count_lines : Option Addr} {an_count_lines : Option Addr} {sl_count_lines : Array (Option Value)} {oc_count_lines : Value} {kV_count_lines : Value} {dc_count_lines : Value} {pm_count_lines : Value} {cd_count_lines : Value} {ct_count_lines : Value} {f_check_index : Addr} {od_check_index : Option Addr} {an_check_index : Option Addr} {sl_check_index : Array (Option Value)} {oc_check_index : Value} {kV_check_index : Value} {dc_check_index : Value} {pm_check_index : Value} {cd_check_index : Value} {ct_check_index : Value} {f_Lines_begin : Addr} {od_Lines_begin : Option Addr} {an_Lines_begin : Option Addr} {sl_Lines_begin : Array (Option Value)} {oc_Lines_begin : Value} {kV_Lines_begin : Value} {dc_Lines_begin : Value} {pm_Lines_begin : Value} {cd_Lines_begin : Value} {ct_Lines_begin : Value} {f_line_of : Addr} {od_line_of : Option Addr} {an_line_of : Option Addr} {sl_line_of : Array (Option Value)} {oc_line_of : Value} {kV_line_of : Value} {dc_line_of : Value} {pm_line_of : Value} {cd_line_of : Value} {ct_line_of : Value} {f_Lines_length : Addr} {od_Lines_length : Option Addr} {an_Lines_length : Option Addr} {sl_Lines_length : Array (Option Value)} {oc_Lines_length : Value} {kV_Lines_length : Value} {dc_Lines_length : Value} {pm_Lines_length : Value} {cd_Lines_length : Value} {ct_Lines_length : Value} {f_line_at : Addr} {od_line_at : Option Addr} {an_line_at : Option Addr} {sl_line_at : Array (Option Value)} {oc_line_at : Value} {kV_line_at : Value} {dc_line_at : Value} {pm_line_at : Value} {cd_line_at : Value} {ct_line_at : Value} {f__law_sum : Addr} {od__law_sum : Option Addr} {an__law_sum : Option Addr} {sl__law_sum : Array (Option Value)} {oc__law_sum : Value} {kV__law_sum : Value} {dc__law_sum : Value} {pm__law_sum : Value} {cd__law_sum : Value} {ct__law_sum : Value} {f__law_line_right : Addr} {od__law_line_right : Option Addr} {an__law_line_right : Option Addr} {sl__law_line_right : Array (Option Value)} {oc__law_line_right : Value} {kV__law_line_right : Value} {dc__law_line_right : Value} {pm__law_line_right : Value} {cd__law_line_right : Value} {ct__law_line_right : Value} {f__law_right : Addr} {od__law_right : Option Addr} {an__law_right : Option Addr} {sl__law_right : Array (Option Value)} {oc__law_right : Value} {kV__law_right : Value} {dc__law_right : Value} {pm__law_right : Value} {cd__law_right : Value} {ct__law_right : Value} {f__law_width : Addr} {od__law_width : Option Addr} {an__law_width : Option Addr} {sl__law_width : Array (Option Value)} {oc__law_width : Value} {kV__law_width : Value} {dc__law_width : Value} {pm__law_width : Value} {cd__law_width : Value} {ct__law_width : Value} {f__law_weight : Addr} {od__law_weight : Option Addr} {an__law_weight : Option Addr} {sl__law_weight : Array (Option Value)} {oc__law_weight : Value} {kV__law_weight : Value} {dc__law_weight : Value} {pm__law_weight : Value} {cd__law_weight : Value} {ct__law_weight : Value} {f__law_box : Addr} {od__law_box : Option Addr} {an__law_box : Option Addr} {sl__law_box : Array (Option Value)} {oc__law_box : Value} {kV__law_box : Value} {dc__law_box : Value} {pm__law_box : Value} {cd__law_box : Value} {ct__law_box : Value} {f__law_pattern : Addr} {od__law_pattern : Option Addr} {an__law_pattern : Option Addr} {sl__law_pattern : Array (Option Value)} {oc__law_pattern : Value} {kV__law_pattern : Value} {dc__law_pattern : Value} {pm__law_pattern : Value} {cd__law_pattern : Value} {ct__law_pattern : Value} {f_law : Addr} {od_law : Option Addr} {an_law : Option Addr} {sl_law : Array (Option Value)} {oc_law : Value} {kV_law : Value} {dc_law : Value} {pm_law : Value} {cd_law : Value} {ct_law : Value} {c_Box : Addr} {p_Box_wish : Addr} {p_Box_least : Addr} {p_Box_most : Addr} {p_Box_grow : Addr} {p_Box_shrink : Addr} {p_Box_own : Addr} {pr_Box_own : List Value} {c_Lines : Addr} {tk_HEAVIEST : Tok} {tk_MOST_BOXES : Tok} {tk_MOST_TIMES : Tok} {tk_WIDEST : Tok}
    (a__law_crib : PySem.W.nsIn K mainGlobals "_law_crib" = some (some (.ref f__law_crib)))
    (l__law_crib : K.lookup f__law_crib = some ⟨oc__law_crib, od__law_crib, .func (PySem.W.fnOf "_law_crib" "_law_crib" (defArgs s__law_crib) (defBody s__law_crib) (defScope s__law_crib) .none kV__law_crib dc__law_crib pm__law_crib an__law_crib cd__law_crib ct__law_crib), sl__law_crib⟩)
    (e__law_crib : PySem.W.codeIn K cd__law_crib "_law_crib" = true)
    (k__law_crib : PySem.W.keepIn K (.ref f__law_crib) = true)
    (a__law_pluck : PySem.W.nsIn K mainGlobals "_law_pluck" = some (some (.ref f__law_pluck)))
    (l__law_pluck : K.lookup f__law_pluck = some ⟨oc__law_pluck, od__law_pluck, .func (PySem.W.fnOf "_law_pluck" "_law_pluck" (defArgs s__law_pluck) (defBody s__law_pluck) (defScope s__law_pluck) .none kV__law_pluck dc__law_pluck pm__law_pluck an__law_pluck cd__law_pluck ct__law_pluck), sl__law_pluck⟩)
    (e__law_pluck : PySem.W.codeIn K cd__law_pluck "_law_pluck" = true)
    (k__law_pluck : PySem.W.keepIn K (.ref f__law_pluck) = true)
    (a_is_int : PySem.W.nsIn K mainGlobals "is_int" = some (some (.ref f_is_int)))
    (l_is_int : K.lookup f_is_int = some ⟨oc_is_int, od_is_int, .func (PySem.W.fnOf "is_int" "is_int" (defArgs s_is_int) (defBody s_is_int) (defScope s_is_int) .none kV_is_int dc_is_int pm_is_int an_is_int cd_is_int ct_is_int), sl_is_int⟩)
    (e_is_int : PySem.W.codeIn K cd_is_int "is_int" = true)
    (k_is_int : PySem.W.keepIn K (.ref f_is_int) = true)
    (a_in_bounds : PySem.W.nsIn K mainGlobals "in_bounds" = some (some (.ref f_in_bounds)))
    (l_in_bounds : K.lookup f_in_bounds = some ⟨oc_in_bounds, od_in_bounds, .func (PySem.W.fnOf "in_bounds" "in_bounds" (defArgs s_in_bounds) (defBody s_in_bounds) (defScope s_in_bounds) .none kV_in_bounds dc_in_bounds pm_in_bounds an_in_bounds cd_in_bounds ct_in_bounds), sl_in_bounds⟩)
    (e_in_bounds : PySem.W.codeIn K cd_in_bounds "in_bounds" = true)
    (k_in_bounds : PySem.W.keepIn K (.ref f_in_bounds) = true)
    (a_are_box_numbers : PySem.W.nsIn K mainGlobals "are_box_numbers" = some (some (.ref f_are_box_numbers)))
    (l_are_box_numbers : K.lookup f_are_box_numbers = some ⟨oc_are_box_numbers, od_are_box_numbers, .func (PySem.W.fnOf "are_box_numbers" "are_box_numbers" (defArgs s_are_box_numbers) (defBody s_are_box_numbers) (defScope s_are_box_numbers) .none kV_are_box_numbers dc_are_box_numbers pm_are_box_numbers an_are_box_numbers cd_are_box_numbers ct_are_box_numbers), sl_are_box_numbers⟩)
    (e_are_box_numbers : PySem.W.codeIn K cd_are_box_numbers "are_box_numbers" = true)
    (k_are_box_numbers : PySem.W.keepIn K (.ref f_are_box_numbers) = true)
    (a__law_made : PySem.W.nsIn K mainGlobals "_law_made" = some (some (.ref f__law_made)))
    (l__law_made : K.lookup f__law_made = some ⟨oc__law_made, od__law_made, .func (PySem.W.fnOf "_law_made" "_law_made" (defArgs s__law_made) (defBody s__law_made) (defScope s__law_made) .none kV__law_made dc__law_made pm__law_made an__law_made cd__law_made ct__law_made), sl__law_made⟩)
    (e__law_made : PySem.W.codeIn K cd__law_made "_law_made" = true)
    (k__law_made : PySem.W.keepIn K (.ref f__law_made) = true)
    (a__law_limit : PySem.W.nsIn K mainGlobals "_law_limit" = some (some (.ref f__law_limit)))
    (l__law_limit : K.lookup f__law_limit = some ⟨oc__law_limit, od__law_limit, .func (PySem.W.fnOf "_law_limit" "_law_limit" (defArgs s__law_limit) (defBody s__law_limit) (defScope s__law_limit) .none kV__law_limit dc__law_limit pm__law_limit an__law_limit cd__law_limit ct__law_limit), sl__law_limit⟩)
    (e__law_limit : PySem.W.codeIn K cd__law_limit "_law_limit" = true)
    (k__law_limit : PySem.W.keepIn K (.ref f__law_limit) = true)
    (a__law_own : PySem.W.nsIn K mainGlobals "_law_own" = some (some (.ref f__law_own)))
    (l__law_own : K.lookup f__law_own = some ⟨oc__law_own, od__law_own, .func (PySem.W.fnOf "_law_own" "_law_own" (defArgs s__law_own) (defBody s__law_own) (defScope s__law_own) .none kV__law_own dc__law_own pm__law_own an__law_own cd__law_own ct__law_own), sl__law_own⟩)
    (e__law_own : PySem.W.codeIn K cd__law_own "_law_own" = true)
    (k__law_own : PySem.W.keepIn K (.ref f__law_own) = true)
    (a_check_boxes : PySem.W.nsIn K mainGlobals "check_boxes" = some (some (.ref f_check_boxes)))
    (l_check_boxes : K.lookup f_check_boxes = some ⟨oc_check_boxes, od_check_boxes, .func (PySem.W.fnOf "check_boxes" "check_boxes" (defArgs s_check_boxes) (defBody s_check_boxes) (defScope s_check_boxes) .none kV_check_boxes dc_check_boxes pm_check_boxes an_check_boxes cd_check_boxes ct_check_boxes), sl_check_boxes⟩)
    (e_check_boxes : PySem.W.codeIn K cd_check_boxes "check_boxes" = true)
    (k_check_boxes : PySem.W.keepIn K (.ref f_check_boxes) = true)
    (a_check_pattern : PySem.W.nsIn K mainGlobals "check_pattern" = some (some (.ref f_check_pattern)))
    (l_check_pattern : K.lookup f_check_pattern = some ⟨oc_check_pattern, od_check_pattern, .func (PySem.W.fnOf "check_pattern" "check_pattern" (defArgs s_check_pattern) (defBody s_check_pattern) (defScope s_check_pattern) .none kV_check_pattern dc_check_pattern pm_check_pattern an_check_pattern cd_check_pattern ct_check_pattern), sl_check_pattern⟩)
    (e_check_pattern : PySem.W.codeIn K cd_check_pattern "check_pattern" = true)
    (k_check_pattern : PySem.W.keepIn K (.ref f_check_pattern) = true)
    (a_check_whole : PySem.W.nsIn K mainGlobals "check_whole" = some (some (.ref f_check_whole)))
    (l_check_whole : K.lookup f_check_whole = some ⟨oc_check_whole, od_check_whole, .func (PySem.W.fnOf "check_whole" "check_whole" (defArgs s_check_whole) (defBody s_check_whole) (defScope s_check_whole) .none kV_check_whole dc_check_whole pm_check_whole an_check_whole cd_check_whole ct_check_whole), sl_check_whole⟩)
    (e_check_whole : PySem.W.codeIn K cd_check_whole "check_whole" = true)
    (k_check_whole : PySem.W.keepIn K (.ref f_check_whole) = true)
    (a_limited : PySem.W.nsIn K mainGlobals "limited" = some (some (.ref f_limited)))
    (l_limited : K.lookup f_limited = some ⟨oc_limited, od_limited, .func (PySem.W.fnOf "limited" "limited" (defArgs s_limited) (defBody s_limited) (defScope s_limited) .none kV_limited dc_limited pm_limited an_limited cd_limited ct_limited), sl_limited⟩)
    (e_limited : PySem.W.codeIn K cd_limited "limited" = true)
    (k_limited : PySem.W.keepIn K (.ref f_limited) = true)
    (a_boxes_that_fit : PySem.W.nsIn K mainGlobals "boxes_that_fit" = some (some (.ref f_boxes_that_fit)))
    (l_boxes_that_fit : K.lookup f_boxes_that_fit = some ⟨oc_boxes_that_fit, od_boxes_that_fit, .func (PySem.W.fnOf "boxes_that_fit" "boxes_that_fit" (defArgs s_boxes_that_fit) (defBody s_boxes_that_fit) (defScope s_boxes_that_fit) .none kV_boxes_that_fit dc_boxes_that_fit pm_boxes_that_fit an_boxes_that_fit cd_boxes_that_fit ct_boxes_that_fit), sl_boxes_that_fit⟩)
    (e_boxes_that_fit : PySem.W.codeIn K cd_boxes_that_fit "boxes_that_fit" = true)
    (k_boxes_that_fit : PySem.W.keepIn K (.ref f_boxes_that_fit) = true)
    (a_lines_of : PySem.W.nsIn K mainGlobals "lines_of" = some (some (.ref f_lines_of)))
    (l_lines_of : K.lookup f_lines_of = some ⟨oc_lines_of, od_lines_of, .func (PySem.W.fnOf "lines_of" "lines_of" (defArgs s_lines_of) (defBody s_lines_of) (defScope s_lines_of) .none kV_lines_of dc_lines_of pm_lines_of an_lines_of cd_lines_of ct_lines_of), sl_lines_of⟩)
    (e_lines_of : PySem.W.codeIn K cd_lines_of "lines_of" = true)
    (k_lines_of : PySem.W.keepIn K (.ref f_lines_of) = true)
    (a_count_lines : PySem.W.nsIn K mainGlobals "count_lines" = some (some (.ref f_count_lines)))
    (l_count_lines : K.lookup f_count_lines = some ⟨oc_count_lines, od_count_lines, .func (PySem.W.fnOf "count_lines" "count_lines" (defArgs s_count_lines) (defBody s_count_lines) (defScope s_count_lines) .none kV_count_lines dc_count_lines pm_count_lines an_count_lines cd_count_lines ct_count_lines), sl_count_lines⟩)
    (e_count_lines : PySem.W.codeIn K cd_count_lines "count_lines" = true)
    (k_count_lines : PySem.W.keepIn K (.ref f_count_lines) = true)
    (a_check_index : PySem.W.nsIn K mainGlobals "check_index" = some (some (.ref f_check_index)))
    (l_check_index : K.lookup f_check_index = some ⟨oc_check_index, od_check_index, .func (PySem.W.fnOf "check_index" "check_index" (defArgs s_check_index) (defBody s_check_index) (defScope s_check_index) .none kV_check_index dc_check_index pm_check_index an_check_index cd_check_index ct_check_index), sl_check_index⟩)
    (e_check_index : PySem.W.codeIn K cd_check_index "check_index" = true)
    (k_check_index : PySem.W.keepIn K (.ref f_check_index) = true)
    (a_line_of : PySem.W.nsIn K mainGlobals "line_of" = some (some (.ref f_line_of)))
    (l_line_of : K.lookup f_line_of = some ⟨oc_line_of, od_line_of, .func (PySem.W.fnOf "line_of" "line_of" (defArgs s_line_of) (defBody s_line_of) (defScope s_line_of) .none kV_line_of dc_line_of pm_line_of an_line_of cd_line_of ct_line_of), sl_line_of⟩)
    (e_line_of : PySem.W.codeIn K cd_line_of "line_of" = true)
    (k_line_of : PySem.W.keepIn K (.ref f_line_of) = true)
    (a_line_at : PySem.W.nsIn K mainGlobals "line_at" = some (some (.ref f_line_at)))
    (l_line_at : K.lookup f_line_at = some ⟨oc_line_at, od_line_at, .func (PySem.W.fnOf "line_at" "line_at" (defArgs s_line_at) (defBody s_line_at) (defScope s_line_at) .none kV_line_at dc_line_at pm_line_at an_line_at cd_line_at ct_line_at), sl_line_at⟩)
    (e_line_at : PySem.W.codeIn K cd_line_at "line_at" = true)
    (k_line_at : PySem.W.keepIn K (.ref f_line_at) = true)
    (a__law_sum : PySem.W.nsIn K mainGlobals "_law_sum" = some (some (.ref f__law_sum)))
    (l__law_sum : K.lookup f__law_sum = some ⟨oc__law_sum, od__law_sum, .func (PySem.W.fnOf "_law_sum" "_law_sum" (defArgs s__law_sum) (defBody s__law_sum) (defScope s__law_sum) .none kV__law_sum dc__law_sum pm__law_sum an__law_sum cd__law_sum ct__law_sum), sl__law_sum⟩)
    (e__law_sum : PySem.W.codeIn K cd__law_sum "_law_sum" = true)
    (k__law_sum : PySem.W.keepIn K (.ref f__law_sum) = true)
    (a__law_line_right : PySem.W.nsIn K mainGlobals "_law_line_right" = some (some (.ref f__law_line_right)))
    (l__law_line_right : K.lookup f__law_line_right = some ⟨oc__law_line_right, od__law_line_right, .func (PySem.W.fnOf "_law_line_right" "_law_line_right" (defArgs s__law_line_right) (defBody s__law_line_right) (defScope s__law_line_right) .none kV__law_line_right dc__law_line_right pm__law_line_right an__law_line_right cd__law_line_right ct__law_line_right), sl__law_line_right⟩)
    (e__law_line_right : PySem.W.codeIn K cd__law_line_right "_law_line_right" = true)
    (k__law_line_right : PySem.W.keepIn K (.ref f__law_line_right) = true)
    (a__law_right : PySem.W.nsIn K mainGlobals "_law_right" = some (some (.ref f__law_right)))
    (l__law_right : K.lookup f__law_right = some ⟨oc__law_right, od__law_right, .func (PySem.W.fnOf "_law_right" "_law_right" (defArgs s__law_right) (defBody s__law_right) (defScope s__law_right) .none kV__law_right dc__law_right pm__law_right an__law_right cd__law_right ct__law_right), sl__law_right⟩)
    (e__law_right : PySem.W.codeIn K cd__law_right "_law_right" = true)
    (k__law_right : PySem.W.keepIn K (.ref f__law_right) = true)
    (a__law_width : PySem.W.nsIn K mainGlobals "_law_width" = some (some (.ref f__law_width)))
    (l__law_width : K.lookup f__law_width = some ⟨oc__law_width, od__law_width, .func (PySem.W.fnOf "_law_width" "_law_width" (defArgs s__law_width) (defBody s__law_width) (defScope s__law_width) .none kV__law_width dc__law_width pm__law_width an__law_width cd__law_width ct__law_width), sl__law_width⟩)
    (e__law_width : PySem.W.codeIn K cd__law_width "_law_width" = true)
    (k__law_width : PySem.W.keepIn K (.ref f__law_width) = true)
    (a__law_weight : PySem.W.nsIn K mainGlobals "_law_weight" = some (some (.ref f__law_weight)))
    (l__law_weight : K.lookup f__law_weight = some ⟨oc__law_weight, od__law_weight, .func (PySem.W.fnOf "_law_weight" "_law_weight" (defArgs s__law_weight) (defBody s__law_weight) (defScope s__law_weight) .none kV__law_weight dc__law_weight pm__law_weight an__law_weight cd__law_weight ct__law_weight), sl__law_weight⟩)
    (e__law_weight : PySem.W.codeIn K cd__law_weight "_law_weight" = true)
    (k__law_weight : PySem.W.keepIn K (.ref f__law_weight) = true)
    (a__law_box : PySem.W.nsIn K mainGlobals "_law_box" = some (some (.ref f__law_box)))
    (l__law_box : K.lookup f__law_box = some ⟨oc__law_box, od__law_box, .func (PySem.W.fnOf "_law_box" "_law_box" (defArgs s__law_box) (defBody s__law_box) (defScope s__law_box) .none kV__law_box dc__law_box pm__law_box an__law_box cd__law_box ct__law_box), sl__law_box⟩)
    (e__law_box : PySem.W.codeIn K cd__law_box "_law_box" = true)
    (k__law_box : PySem.W.keepIn K (.ref f__law_box) = true)
    (a__law_pattern : PySem.W.nsIn K mainGlobals "_law_pattern" = some (some (.ref f__law_pattern)))
    (l__law_pattern : K.lookup f__law_pattern = some ⟨oc__law_pattern, od__law_pattern, .func (PySem.W.fnOf "_law_pattern" "_law_pattern" (defArgs s__law_pattern) (defBody s__law_pattern) (defScope s__law_pattern) .none kV__law_pattern dc__law_pattern pm__law_pattern an__law_pattern cd__law_pattern ct__law_pattern), sl__law_pattern⟩)
    (e__law_pattern : PySem.W.codeIn K cd__law_pattern "_law_pattern" = true)
    (k__law_pattern : PySem.W.keepIn K (.ref f__law_pattern) = true)
    (a_law : PySem.W.nsIn K mainGlobals "law" = some (some (.ref f_law)))
    (l_law : K.lookup f_law = some ⟨oc_law, od_law, .func (PySem.W.fnOf "law" "law" (defArgs s_law) (defBody s_law) (defScope s_law) .none kV_law dc_law pm_law an_law cd_law ct_law), sl_law⟩)
    (e_law : PySem.W.codeIn K cd_law "law" = true)
    (k_law : PySem.W.keepIn K (.ref f_law) = true)
    (a_Box : PySem.W.nsIn K mainGlobals "Box" = some (some (.ref c_Box)))
    (pg_Box : PySem.W.plainGet K c_Box Str.empty = true)
    (hd_Box : PySem.W.hasDictIn K c_Box = true)
    (po_Box : PySem.W.plainOver K c_Box = true)
    (sa_Box : PySem.W.findIn K (.ref c_Box) "__setattr__" = some (some (.builtin "object.__setattr__")))
    (no_Box__wish : PySem.W.findIn K (.ref c_Box) "_wish" = some none)
    (no_Box__least : PySem.W.findIn K (.ref c_Box) "_least" = some none)
    (no_Box__most : PySem.W.findIn K (.ref c_Box) "_most" = some none)
    (no_Box__grow : PySem.W.findIn K (.ref c_Box) "_grow" = some none)
    (no_Box__shrink : PySem.W.findIn K (.ref c_Box) "_shrink" = some none)
    (at_Box_d_init_d : PySem.W.findIn K (.ref c_Box) "__init__" = some (some (.ref f_Box_d_init_d)))
    (fn_Box_d_init_d : PySem.W.isFn K (.ref f_Box_d_init_d) = true)
    (mk_Box : PySem.W.makesIn K c_Box = true)
    (kc_Box : PySem.W.keepIn K (.ref c_Box) = true)
    (pa_Box_wish : PySem.W.findIn K (.ref c_Box) "wish" = some (some (.ref p_Box_wish)))
    (pa_Box_least : PySem.W.findIn K (.ref c_Box) "least" = some (some (.ref p_Box_least)))
    (pa_Box_most : PySem.W.findIn K (.ref c_Box) "most" = some (some (.ref p_Box_most)))
    (pa_Box_grow : PySem.W.findIn K (.ref c_Box) "grow" = some (some (.ref p_Box_grow)))
    (pa_Box_shrink : PySem.W.findIn K (.ref c_Box) "shrink" = some (some (.ref p_Box_shrink)))
    (pa_Box_own : PySem.W.findIn K (.ref c_Box) "own" = some (some (.ref p_Box_own)))
    (pb_Box_own : PySem.W.specialIn K (.ref p_Box_own) "__get__" = some (some (.builtin "property.__get__")))
    (pc_Box_own : PySem.W.takesIn K (.ref p_Box_own) = some true)
    (pd_Box_own : PySem.W.recIn K p_Box_own "property" = some (.ref f_Box_own :: pr_Box_own))
    (ia_Box : PySem.W.findIn K (.ref c_Box) "__class__" = some (some (.builtin "object.__class__")))
    (ib_Box : PySem.W.specialIn K (.builtin "object.__class__") "__get__" = some (some (.builtin "getset_descriptor.__get__")))
    (ic_Box : PySem.W.takesIn K (.builtin "object.__class__") = some true)
    (id_Box : PySem.W.mroIn K c_Box (.type "object") = some true)
    (a_Lines : PySem.W.nsIn K mainGlobals "Lines" = some (some (.ref c_Lines)))
    (pg_Lines : PySem.W.plainGet K c_Lines Str.empty = true)
    (hd_Lines : PySem.W.hasDictIn K c_Lines = true)
    (po_Lines : PySem.W.plainOver K c_Lines = true)
    (sa_Lines : PySem.W.findIn K (.ref c_Lines) "__setattr__" = some (some (.builtin "object.__setattr__")))
    (no_Lines_wide : PySem.W.findIn K (.ref c_Lines) "wide" = some none)
    (no_Lines_amount : PySem.W.findIn K (.ref c_Lines) "amount" = some none)
    (no_Lines_costs : PySem.W.findIn K (.ref c_Lines) "costs" = some none)
    (no_Lines_room : PySem.W.findIn K (.ref c_Lines) "room" = some none)
    (no_Lines_starts : PySem.W.findIn K (.ref c_Lines) "starts" = some none)
    (no_Lines_again : PySem.W.findIn K (.ref c_Lines) "again" = some none)
    (at_Lines_d_init_d : PySem.W.findIn K (.ref c_Lines) "__init__" = some (some (.ref f_Lines_d_init_d)))
    (fn_Lines_d_init_d : PySem.W.isFn K (.ref f_Lines_d_init_d) = true)
    (mk_Lines : PySem.W.makesIn K c_Lines = true)
    (kc_Lines : PySem.W.keepIn K (.ref c_Lines) = true)
    (at_Lines_length_at : PySem.W.findIn K (.ref c_Lines) "length_at" = some (some (.ref f_Lines_length_at)))
    (fn_Lines_length_at : PySem.W.isFn K (.ref f_Lines_length_at) = true)
    (at_Lines_add_line : PySem.W.findIn K (.ref c_Lines) "add_line" = some (some (.ref f_Lines_add_line)))
    (fn_Lines_add_line : PySem.W.isFn K (.ref f_Lines_add_line) = true)
    (at_Lines_turn : PySem.W.findIn K (.ref c_Lines) "turn" = some (some (.ref f_Lines_turn)))
    (fn_Lines_turn : PySem.W.isFn K (.ref f_Lines_turn) = true)
    (at_Lines_begin : PySem.W.findIn K (.ref c_Lines) "begin" = some (some (.ref f_Lines_begin)))
    (fn_Lines_begin : PySem.W.isFn K (.ref f_Lines_begin) = true)
    (at_Lines_line_with : PySem.W.findIn K (.ref c_Lines) "line_with" = some (some (.ref f_Lines_line_with)))
    (fn_Lines_line_with : PySem.W.isFn K (.ref f_Lines_line_with) = true)
    (at_Lines_number : PySem.W.findIn K (.ref c_Lines) "number" = some (some (.ref f_Lines_number)))
    (fn_Lines_number : PySem.W.isFn K (.ref f_Lines_number) = true)
    (at_Lines_length : PySem.W.findIn K (.ref c_Lines) "length" = some (some (.ref f_Lines_length)))
    (fn_Lines_length : PySem.W.isFn K (.ref f_Lines_length) = true)
    (ia_Lines : PySem.W.findIn K (.ref c_Lines) "__class__" = some (some (.builtin "object.__class__")))
    (ib_Lines : PySem.W.specialIn K (.builtin "object.__class__") "__get__" = some (some (.builtin "getset_descriptor.__get__")))
    (ic_Lines : PySem.W.takesIn K (.builtin "object.__class__") = some true)
    (id_Lines : PySem.W.mroIn K c_Lines (.type "object") = some true)
    (x_HEAVIEST : PySem.W.nsIn K mainGlobals "HEAVIEST" = some (some (.int 1000000 tk_HEAVIEST)))
    (x_MOST_BOXES : PySem.W.nsIn K mainGlobals "MOST_BOXES" = some (some (.int 40 tk_MOST_BOXES)))
    (x_MOST_TIMES : PySem.W.nsIn K mainGlobals "MOST_TIMES" = some (some (.int 1000000000000000000000000000000 tk_MOST_TIMES)))
    (x_WIDEST : PySem.W.nsIn K mainGlobals "WIDEST" = some (some (.int 1000000000000000000000000000000 tk_WIDEST)))
    (x_all : PySem.W.nsIn K mainGlobals "all" = some none)
    (x_bool : PySem.W.nsIn K mainGlobals "bool" = some none)
    (x_divmod : PySem.W.nsIn K mainGlobals "divmod" = some none)
    (x_int : PySem.W.nsIn K mainGlobals "int" = some none)
    (x_isinstance : PySem.W.nsIn K mainGlobals "isinstance" = some none)
    (x_len : PySem.W.nsIn K mainGlobals "len" = some none)
    (x_list : PySem.W.nsIn K mainGlobals "list" = some none)
    (x_max : PySem.W.nsIn K mainGlobals "max" = some none)
    (x_min : PySem.W.nsIn K mainGlobals "min" = some none)
    (x_range : PySem.W.nsIn K mainGlobals "range" = some none)
    (x_sum : PySem.W.nsIn K mainGlobals "sum" = some none)
    (l_Box_d_init_d : K.lookup f_Box_d_init_d = some ⟨oc_Box_d_init_d, od_Box_d_init_d, .func (PySem.W.fnOf "__init__" "Box.__init__" (defArgs s_Box_d_init_d) (defBody s_Box_d_init_d) (defScope s_Box_d_init_d) (.ref T_Box_d_init_d) kV_Box_d_init_d dc_Box_d_init_d pm_Box_d_init_d an_Box_d_init_d cd_Box_d_init_d ct_Box_d_init_d), sl_Box_d_init_d⟩)
    (e_Box_d_init_d : PySem.W.codeIn K cd_Box_d_init_d "Box.__init__" = true)
    (k_Box_d_init_d : PySem.W.keepIn K (.ref f_Box_d_init_d) = true)
    (T1_Box_d_init_d : K.lookup T_Box_d_init_d = some ⟨Tc_Box_d_init_d, Td_Box_d_init_d, .seq [.int 0 t0_Box_d_init_d, .none, .int 0 t2_Box_d_init_d, .int 0 t3_Box_d_init_d].toArray Tn_Box_d_init_d, Ts_Box_d_init_d⟩)
    (l_Lines_turn : K.lookup f_Lines_turn = some ⟨oc_Lines_turn, od_Lines_turn, .func (PySem.W.fnOf "turn" "Lines.turn" (defArgs s_Lines_turn) (defBody s_Lines_turn) (defScope s_Lines_turn) .none kV_Lines_turn dc_Lines_turn pm_Lines_turn an_Lines_turn cd_Lines_turn ct_Lines_turn), sl_Lines_turn⟩)
    (e_Lines_turn : PySem.W.codeIn K cd_Lines_turn "Lines.turn" = true)
    (k_Lines_turn : PySem.W.keepIn K (.ref f_Lines_turn) = true)
    (l_Lines_line_with : K.lookup f_Lines_line_with = some ⟨oc_Lines_line_with, od_Lines_line_with, .func (PySem.W.fnOf "line_with" "Lines.line_with" (defArgs s_Lines_line_with) (defBody s_Lines_line_with) (defScope s_Lines_line_with) .none kV_Lines_line_with dc_Lines_line_with pm_Lines_line_with an_Lines_line_with cd_Lines_line_with ct_Lines_line_with), sl_Lines_line_with⟩)
    (e_Lines_line_with : PySem.W.codeIn K cd_Lines_line_with "Lines.line_with" = true)
    (k_Lines_line_with : PySem.W.keepIn K (.ref f_Lines_line_with) = true)
    (l_Lines_number : K.lookup f_Lines_number = some ⟨oc_Lines_number, od_Lines_number, .func (PySem.W.fnOf "number" "Lines.number" (defArgs s_Lines_number) (defBody s_Lines_number) (defScope s_Lines_number) .none kV_Lines_number dc_Lines_number pm_Lines_number an_Lines_number cd_Lines_number ct_Lines_number), sl_Lines_number⟩)
    (e_Lines_number : PySem.W.codeIn K cd_Lines_number "Lines.number" = true)
    (k_Lines_number : PySem.W.keepIn K (.ref f_Lines_number) = true)
    (l_Box_own : K.lookup f_Box_own = some ⟨oc_Box_own, od_Box_own, .func (PySem.W.fnOf "own" "Box.own" (defArgs s_Box_own) (defBody s_Box_own) (defScope s_Box_own) .none kV_Box_own dc_Box_own pm_Box_own an_Box_own cd_Box_own ct_Box_own), sl_Box_own⟩)
    (e_Box_own : PySem.W.codeIn K cd_Box_own "Box.own" = true)
    (k_Box_own : PySem.W.keepIn K (.ref f_Box_own) = true)
    (l_Lines_length_at : K.lookup f_Lines_length_at = some ⟨oc_Lines_length_at, od_Lines_length_at, .func (PySem.W.fnOf "length_at" "Lines.length_at" (defArgs s_Lines_length_at) (defBody s_Lines_length_at) (defScope s_Lines_length_at) .none kV_Lines_length_at dc_Lines_length_at pm_Lines_length_at an_Lines_length_at cd_Lines_length_at ct_Lines_length_at), sl_Lines_length_at⟩)
    (e_Lines_length_at : PySem.W.codeIn K cd_Lines_length_at "Lines.length_at" = true)
    (k_Lines_length_at : PySem.W.keepIn K (.ref f_Lines_length_at) = true)
    (l_Lines_add_line : K.lookup f_Lines_add_line = some ⟨oc_Lines_add_line, od_Lines_add_line, .func (PySem.W.fnOf "add_line" "Lines.add_line" (defArgs s_Lines_add_line) (defBody s_Lines_add_line) (defScope s_Lines_add_line) .none kV_Lines_add_line dc_Lines_add_line pm_Lines_add_line an_Lines_add_line cd_Lines_add_line ct_Lines_add_line), sl_Lines_add_line⟩)
    (e_Lines_add_line : PySem.W.codeIn K cd_Lines_add_line "Lines.add_line" = true)
    (k_Lines_add_line : PySem.W.keepIn K (.ref f_Lines_add_line) = true)
    (l_Lines_d_init_d : K.lookup f_Lines_d_init_d = some ⟨oc_Lines_d_init_d, od_Lines_d_init_d, .func (PySem.W.fnOf "__init__" "Lines.__init__" (defArgs s_Lines_d_init_d) (defBody s_Lines_d_init_d) (defScope s_Lines_d_init_d) .none kV_Lines_d_init_d dc_Lines_d_init_d pm_Lines_d_init_d an_Lines_d_init_d cd_Lines_d_init_d ct_Lines_d_init_d), sl_Lines_d_init_d⟩)
    (e_Lines_d_init_d : PySem.W.codeIn K cd_Lines_d_init_d "Lines.__init__" = true)
    (k_Lines_d_init_d : PySem.W.keepIn K (.ref f_Lines_d_init_d) = true)
    (l_Lines_begin : K.lookup f_Lines_begin = some ⟨oc_Lines_begin, od_Lines_begin, .func (PySem.W.fnOf "begin" "Lines.begin" (defArgs s_Lines_begin) (defBody s_Lines_begin) (defScope s_Lines_begin) .none kV_Lines_begin dc_Lines_begin pm_Lines_begin an_Lines_begin cd_Lines_begin ct_Lines_begin), sl_Lines_begin⟩)
    (e_Lines_begin : PySem.W.codeIn K cd_Lines_begin "Lines.begin" = true)
    (k_Lines_begin : PySem.W.keepIn K (.ref f_Lines_begin) = true)
    (l_Lines_length : K.lookup f_Lines_length = some ⟨oc_Lines_length, od_Lines_length, .func (PySem.W.fnOf "length" "Lines.length" (defArgs s_Lines_length) (defBody s_Lines_length) (defScope s_Lines_length) .none kV_Lines_length dc_Lines_length pm_Lines_length an_Lines_length cd_Lines_length ct_Lines_length), sl_Lines_length⟩)
    (e_Lines_length : PySem.W.codeIn K cd_Lines_length "Lines.length" = true)
    (k_Lines_length : PySem.W.keepIn K (.ref f_Lines_length) = true)
    (hmain : ∀ q : Ad, Tx K mg q → ∀ ns : List Int, ns.length ≤ 63 → W_law K (CIof q) [.scr ns] [] fun d _ => d = .bl true) :
    ∃ (fd : FuncData) (C : CI) (W : ZRC), (∀ (s : Shared) (u : Value), BindsTo s fd ⟨[u], []⟩ [("script", u)]) ∧ (∀ base : Heap, K.In base → base.Ns mainGlobals mg → FnG l.prog w K mg base 10 fa fd ["script"] (SpZ K C W)) ∧
      ∀ ns : List Int, ns.length ≤ 63 → W [.scr ns] [] fun d _ => d = .bl true := by
  have e : f_law = fa := by
    have q := (PySem.W.mg_of X G a_law).symm.trans hfa
    cases q
    rfl
  subst e
  let q : Ad := { f__law_crib := f__law_crib, d__law_crib := (PySem.W.fnOf "_law_crib" "_law_crib" (defArgs s__law_crib) (defBody s__law_crib) (defScope s__law_crib) .none kV__law_crib dc__law_crib pm__law_crib an__law_crib cd__law_crib ct__law_crib), f__law_pluck := f__law_pluck, d__law_pluck := (PySem.W.fnOf "_law_pluck" "_law_pluck" (defArgs s__law_pluck) (defBody s__law_pluck) (defScope s__law_pluck) .none kV__law_pluck dc__law_pluck pm__law_pluck an__law_pluck cd__law_pluck ct__law_pluck), f_is_int := f_is_int, d_is_int := (PySem.W.fnOf "is_int" "is_int" (defArgs s_is_int) (defBody s_is_int) (defScope s_is_int) .none kV_is_int dc_is_int pm_is_int an_is_int cd_is_int ct_is_int), f_in_bounds := f_in_bounds, d_in_bounds := (PySem.W.fnOf "in_bounds" "in_bounds" (defArgs s_in_bounds) (defBody s_in_bounds) (defScope s_in_bounds) .none kV_in_bounds dc_in_bounds pm_in_bounds an_in_bounds cd_in_bounds ct_in_bounds), f_are_box_numbers := f_are_box_numbers, d_are_box_numbers := (PySem.W.fnOf "are_box_numbers" "are_box_numbers" (defArgs s_are_box_numbers) (defBody s_are_box_numbers) (defScope s_are_box_numbers) .none kV_are_box_numbers dc_are_box_numbers pm_are_box_numbers an_are_box_numbers cd_are_box_numbers ct_are_box_numbers), f_Box_d_init_d := f_Box_d_init_d, d_Box_d_init_d := (PySem.W.fnOf "__init__" "Box.__init__" (defArgs s_Box_d_init_d) (defBody s_Box_d_init_d) (defScope s_Box_d_init_d) (.ref T_Box_d_init_d) kV_Box_d_init_d dc_Box_d_init_d pm_Box_d_init_d an_Box_d_init_d cd_Box_d_init_d ct_Box_d_init_d), f__law_made := f__law_made, d__law_made := (PySem.W.fnOf "_law_made" "_law_made" (defArgs s__law_made) (defBody s__law_made) (defScope s__law_made) .none kV__law_made dc__law_made pm__law_made an__law_made cd__law_made ct__law_made), f__law_limit := f__law_limit, d__law_limit := (PySem.W.fnOf "_law_limit" "_law_limit" (defArgs s__law_limit) (defBody s__law_limit) (defScope s__law_limit) .none kV__law_limit dc__law_limit pm__law_limit an__law_limit cd__law_limit ct__law_limit), f__law_own := f__law_own, d__law_own := (PySem.W.fnOf "_law_own" "_law_own" (defArgs s__law_own) (defBody s__law_own) (defScope s__law_own) .none kV__law_own dc__law_own pm__law_own an__law_own cd__law_own ct__law_own), f_Lines_turn := f_Lines_turn, d_Lines_turn := (PySem.W.fnOf "turn" "Lines.turn" (defArgs s_Lines_turn) (defBody s_Lines_turn) (defScope s_Lines_turn) .none kV_Lines_turn dc_Lines_turn pm_Lines_turn an_Lines_turn cd_Lines_turn ct_Lines_turn), f_Lines_line_with := f_Lines_line_with, d_Lines_line_with := (PySem.W.fnOf "line_with" "Lines.line_with" (defArgs s_Lines_line_with) (defBody s_Lines_line_with) (defScope s_Lines_line_with) .none kV_Lines_line_with dc_Lines_line_with pm_Lines_line_with an_Lines_line_with cd_Lines_line_with ct_Lines_line_with), f_Lines_number := f_Lines_number, d_Lines_number := (PySem.W.fnOf "number" "Lines.number" (defArgs s_Lines_number) (defBody s_Lines_number) (defScope s_Lines_number) .none kV_Lines_number dc_Lines_number pm_Lines_number an_Lines_number cd_Lines_number ct_Lines_number), f_check_boxes := f_check_boxes, d_check_boxes := (PySem.W.fnOf "check_boxes" "check_boxes" (defArgs s_check_boxes) (defBody s_check_boxes) (defScope s_check_boxes) .none kV_check_boxes dc_check_boxes pm_check_boxes an_check_boxes cd_check_boxes ct_check_boxes), f_check_pattern := f_check_pattern, d_check_pattern := (PySem.W.fnOf "check_pattern" "check_pattern" (defArgs s_check_pattern) (defBody s_check_pattern) (defScope s_check_pattern) .none kV_check_pattern dc_check_pattern pm_check_pattern an_check_pattern cd_check_pattern ct_check_pattern), f_check_whole := f_check_whole, d_check_whole := (PySem.W.fnOf "check_whole" "check_whole" (defArgs s_check_whole) (defBody s_check_whole) (defScope s_check_whole) .none kV_check_whole dc_check_whole pm_check_whole an_check_whole cd_check_whole ct_check_whole), f_limited := f_limited, d_limited := (PySem.W.fnOf "limited" "limited" (defArgs s_limited) (defBody s_limited) (defScope s_limited) .none kV_limited dc_limited pm_limited an_limited cd_limited ct_limited), f_Box_own := f_Box_own, d_Box_own := (PySem.W.fnOf "own" "Box.own" (defArgs s_Box_own) (defBody s_Box_own) (defScope s_Box_own) .none kV_Box_own dc_Box_own pm_Box_own an_Box_own cd_Box_own ct_Box_own), f_boxes_that_fit := f_boxes_that_fit, d_boxes_that_fit := (PySem.W.fnOf "boxes_that_fit" "boxes_that_fit" (defArgs s_boxes_that_fit) (defBody s_boxes_that_fit) (defScope s_boxes_that_fit) .none kV_boxes_that_fit dc_boxes_that_fit pm_boxes_that_fit an_boxes_that_fit cd_boxes_that_fit ct_boxes_that_fit), f_Lines_length_at := f_Lines_length_at, d_Lines_length_at := (PySem.W.fnOf "length_at" "Lines.length_at" (defArgs s_Lines_length_at) (defBody s_Lines_length_at) (defScope s_Lines_length_at) .none kV_Lines_length_at dc_Lines_length_at pm_Lines_length_at an_Lines_length_at cd_Lines_length_at ct_Lines_length_at), f_Lines_add_line := f_Lines_add_line, d_Lines_add_line := (PySem.W.fnOf "add_line" "Lines.add_line" (defArgs s_Lines_add_line) (defBody s_Lines_add_line) (defScope s_Lines_add_line) .none kV_Lines_add_line dc_Lines_add_line pm_Lines_add_line an_Lines_add_line cd_Lines_add_line ct_Lines_add_line), f_Lines_d_init_d := f_Lines_d_init_d, d_Lines_d_init_d := (PySem.W.fnOf "__init__" "Lines.__init__" (defArgs s_Lines_d_init_d) (defBody s_Lines_d_init_d) (defScope s_Lines_d_init_d) .none kV_Lines_d_init_d dc_Lines_d_init_d pm_Lines_d_init_d an_Lines_d_init_d cd_Lines_d_init_d ct_Lines_d_init_d), f_lines_of := f_lines_of, d_lines_of := (PySem.W.fnOf "lines_of" "lines_of" (defArgs s_lines_of) (defBody s_lines_of) (defScope s_lines_of) .none kV_lines_of dc_lines_of pm_lines_of an_lines_of cd_lines_of ct_lines_of), f_count_lines := f_count_lines, d_count_lines := (PySem.W.fnOf "count_lines" "count_lines" (defArgs s_count_lines) (defBody s_count_lines) (defScope s_count_lines) .none kV_count_lines dc_count_lines pm_count_lines an_count_lines cd_count_lines ct_count_lines), f_check_index := f_check_index, d_check_index := (PySem.W.fnOf "check_index" "check_index" (defArgs s_check_index) (defBody s_check_index) (defScope s_check_index) .none kV_check_index dc_check_index pm_check_index an_check_index cd_check_index ct_check_index), f_Lines_begin := f_Lines_begin, d_Lines_begin := (PySem.W.fnOf "begin" "Lines.begin" (defArgs s_Lines_begin) (defBody s_Lines_begin) (defScope s_Lines_begin) .none kV_Lines_begin dc_Lines_begin pm_Lines_begin an_Lines_begin cd_Lines_begin ct_Lines_begin), f_line_of := f_line_of, d_line_of := (PySem.W.fnOf "line_of" "line_of" (defArgs s_line_of) (defBody s_line_of) (defScope s_line_of) .none kV_line_of dc_line_of pm_line_of an_line_of cd_line_of ct_line_of), f_Lines_length := f_Lines_length, d_Lines_length := (PySem.W.fnOf "length" "Lines.length" (defArgs s_Lines_length) (defBody s_Lines_length) (defScope s_Lines_length) .none kV_Lines_length dc_Lines_length pm_Lines_length an_Lines_length cd_Lines_length ct_Lines_length), f_line_at := f_line_at, d_line_at := (PySem.W.fnOf "line_at" "line_at" (defArgs s_line_at) (defBody s_line_at) (defScope s_line_at) .none kV_line_at dc_line_at pm_line_at an_line_at cd_line_at ct_line_at), f__law_sum := f__law_sum, d__law_sum := (PySem.W.fnOf "_law_sum" "_law_sum" (defArgs s__law_sum) (defBody s__law_sum) (defScope s__law_sum) .none kV__law_sum dc__law_sum pm__law_sum an__law_sum cd__law_sum ct__law_sum), f__law_line_right := f__law_line_right, d__law_line_right := (PySem.W.fnOf "_law_line_right" "_law_line_right" (defArgs s__law_line_right) (defBody s__law_line_right) (defScope s__law_line_right) .none kV__law_line_right dc__law_line_right pm__law_line_right an__law_line_right cd__law_line_right ct__law_line_right), f__law_right := f__law_right, d__law_right := (PySem.W.fnOf "_law_right" "_law_right" (defArgs s__law_right) (defBody s__law_right) (defScope s__law_right) .none kV__law_right dc__law_right pm__law_right an__law_right cd__law_right ct__law_right), f__law_width := f__law_width, d__law_width := (PySem.W.fnOf "_law_width" "_law_width" (defArgs s__law_width) (defBody s__law_width) (defScope s__law_width) .none kV__law_width dc__law_width pm__law_width an__law_width cd__law_width ct__law_width), f__law_weight := f__law_weight, d__law_weight := (PySem.W.fnOf "_law_weight" "_law_weight" (defArgs s__law_weight) (defBody s__law_weight) (defScope s__law_weight) .none kV__law_weight dc__law_weight pm__law_weight an__law_weight cd__law_weight ct__law_weight), f__law_box := f__law_box, d__law_box := (PySem.W.fnOf "_law_box" "_law_box" (defArgs s__law_box) (defBody s__law_box) (defScope s__law_box) .none kV__law_box dc__law_box pm__law_box an__law_box cd__law_box ct__law_box), f__law_pattern := f__law_pattern, d__law_pattern := (PySem.W.fnOf "_law_pattern" "_law_pattern" (defArgs s__law_pattern) (defBody s__law_pattern) (defScope s__law_pattern) .none kV__law_pattern dc__law_pattern pm__law_pattern an__law_pattern cd__law_pattern ct__law_pattern), f_law := f_law, d_law := (PySem.W.fnOf "law" "law" (defArgs s_law) (defBody s_law) (defScope s_law) .none kV_law dc_law pm_law an_law cd_law ct_law), c_Box := c_Box, p_Box_wish := p_Box_wish, p_Box_least := p_Box_least, p_Box_most := p_Box_most, p_Box_grow := p_Box_grow, p_Box_shrink := p_Box_shrink, p_Box_own := p_Box_own, c_Lines := c_Lines }
  have T : Tx K mg q := {
    F__law_crib := (fun_mk (st := s__law_crib) l__law_crib e__law_crib k__law_crib)
    b__law_crib := ((fun_mk (st := s__law_crib) l__law_crib e__law_crib k__law_crib).binds (ps := ["script", "k"]) fun _ _ _ _ _ _ us hl => match us, hl with | [_, _], _ => rfl)
    m__law_crib := (PySem.W.mg_of X G a__law_crib)
    F__law_pluck := (fun_mk (st := s__law_pluck) l__law_pluck e__law_pluck k__law_pluck)
    b__law_pluck := ((fun_mk (st := s__law_pluck) l__law_pluck e__law_pluck k__law_pluck).binds (ps := ["crib", "many"]) fun _ _ _ _ _ _ us hl => match us, hl with | [_, _], _ => rfl)
    m__law_pluck := (PySem.W.mg_of X G a__law_pluck)
    F_is_int := (fun_mk (st := s_is_int) l_is_int e_is_int k_is_int)
    b_is_int := ((fun_mk (st := s_is_int) l_is_int e_is_int k_is_int).binds (ps := ["value"]) fun _ _ _ _ _ _ us hl => match us, hl with | [_], _ => rfl)
    m_is_int := (PySem.W.mg_of X G a_is_int)
    F_in_bounds := (fun_mk (st := s_in_bounds) l_in_bounds e_in_bounds k_in_bounds)
    b_in_bounds := ((fun_mk (st := s_in_bounds) l_in_bounds e_in_bounds k_in_bounds).binds (ps := ["value", "top"]) fun _ _ _ _ _ _ us hl => match us, hl with | [_, _], _ => rfl)
    m_in_bounds := (PySem.W.mg_of X G a_in_bounds)
    F_are_box_numbers := (fun_mk (st := s_are_box_numbers) l_are_box_numbers e_are_box_numbers k_are_box_numbers)
    b_are_box_numbers := ((fun_mk (st := s_are_box_numbers) l_are_box_numbers e_are_box_numbers k_are_box_numbers).binds (ps := ["wish", "least", "most", "grow", "shrink"]) fun _ _ _ _ _ _ us hl => match us, hl with | [_, _, _, _, _], _ => rfl)
    m_are_box_numbers := (PySem.W.mg_of X G a_are_box_numbers)
    F_Box_d_init_d := (Z.FunD.z (show FunD K "__init__" "Box.__init__" (defArgs s_Box_d_init_d) (defBody s_Box_d_init_d) (defScope s_Box_d_init_d) [V.int 0, V.non, V.int 0, V.int 0] [] f_Box_d_init_d (PySem.W.fnOf "__init__" "Box.__init__" (defArgs s_Box_d_init_d) (defBody s_Box_d_init_d) (defScope s_Box_d_init_d) (.ref T_Box_d_init_d) kV_Box_d_init_d dc_Box_d_init_d pm_Box_d_init_d an_Box_d_init_d cd_Box_d_init_d ct_Box_d_init_d) from ⟨⟨_, _, _, _, _, _, _, _, _, _, rfl, l_Box_d_init_d, e_Box_d_init_d, .inr ⟨by simp, _, _, _, _, rfl, T1_Box_d_init_d, rfl, .cons ⟨_, rfl⟩ (.cons rfl (.cons ⟨_, rfl⟩ (.cons ⟨_, rfl⟩ (.nil))))⟩, .inl rfl⟩, k_Box_d_init_d⟩))
    b_Box_d_init_d := (by obtain ⟨ds, h1, h2⟩ := (FunD.binds1 (ps := ["self", "wish", "least", "most", "grow", "shrink"]) (show FunD K "__init__" "Box.__init__" (defArgs s_Box_d_init_d) (defBody s_Box_d_init_d) (defScope s_Box_d_init_d) [V.int 0, V.non, V.int 0, V.int 0] [] f_Box_d_init_d (PySem.W.fnOf "__init__" "Box.__init__" (defArgs s_Box_d_init_d) (defBody s_Box_d_init_d) (defScope s_Box_d_init_d) (.ref T_Box_d_init_d) kV_Box_d_init_d dc_Box_d_init_d pm_Box_d_init_d an_Box_d_init_d cd_Box_d_init_d ct_Box_d_init_d) from ⟨⟨_, _, _, _, _, _, _, _, _, _, rfl, l_Box_d_init_d, e_Box_d_init_d, .inr ⟨by simp, _, _, _, _, rfl, T1_Box_d_init_d, rfl, .cons ⟨_, rfl⟩ (.cons rfl (.cons ⟨_, rfl⟩ (.cons ⟨_, rfl⟩ (.nil))))⟩, .inl rfl⟩, k_Box_d_init_d⟩) 6 4 (by simp) rfl fun _ _ _ _ _ _ _ us its hu hi => match us, hu, its, hi with | [_, _, _, _, _, _], _, [_, _, _, _], _ => ⟨_, rfl, rfl⟩); cases h1; exact h2)
    F__law_made := (fun_mk (st := s__law_made) l__law_made e__law_made k__law_made)
    b__law_made := ((fun_mk (st := s__law_made) l__law_made e__law_made k__law_made).binds (ps := ["pattern"]) fun _ _ _ _ _ _ us hl => match us, hl with | [_], _ => rfl)
    m__law_made := (PySem.W.mg_of X G a__law_made)
    F__law_limit := (fun_mk (st := s__law_limit) l__law_limit e__law_limit k__law_limit)
    b__law_limit := ((fun_mk (st := s__law_limit) l__law_limit e__law_limit k__law_limit).binds (ps := ["box", "number"]) fun _ _ _ _ _ _ us hl => match us, hl with | [_, _], _ => rfl)
    m__law_limit := (PySem.W.mg_of X G a__law_limit)
    F__law_own := (fun_mk (st := s__law_own) l__law_own e__law_own k__law_own)
    b__law_own := ((fun_mk (st := s__law_own) l__law_own e__law_own k__law_own).binds (ps := ["numbers"]) fun _ _ _ _ _ _ us hl => match us, hl with | [_], _ => rfl)
    m__law_own := (PySem.W.mg_of X G a__law_own)
    F_Lines_turn := (fun_mk (st := s_Lines_turn) l_Lines_turn e_Lines_turn k_Lines_turn)
    b_Lines_turn := ((fun_mk (st := s_Lines_turn) l_Lines_turn e_Lines_turn k_Lines_turn).binds (ps := ["self"]) fun _ _ _ _ _ _ us hl => match us, hl with | [_], _ => rfl)
    F_Lines_line_with := (fun_mk (st := s_Lines_line_with) l_Lines_line_with e_Lines_line_with k_Lines_line_with)
    b_Lines_line_with := ((fun_mk (st := s_Lines_line_with) l_Lines_line_with e_Lines_line_with k_Lines_line_with).binds (ps := ["self", "box"]) fun _ _ _ _ _ _ us hl => match us, hl with | [_, _], _ => rfl)
    F_Lines_number := (fun_mk (st := s_Lines_number) l_Lines_number e_Lines_number k_Lines_number)
    b_Lines_number := ((fun_mk (st := s_Lines_number) l_Lines_number e_Lines_number k_Lines_number).binds (ps := ["self"]) fun _ _ _ _ _ _ us hl => match us, hl with | [_], _ => rfl)
    F_check_boxes := (fun_mk (st := s_check_boxes) l_check_boxes e_check_boxes k_check_boxes)
    b_check_boxes := ((fun_mk (st := s_check_boxes) l_check_boxes e_check_boxes k_check_boxes).binds (ps := ["boxes"]) fun _ _ _ _ _ _ us hl => match us, hl with | [_], _ => rfl)
    m_check_boxes := (PySem.W.mg_of X G a_check_boxes)
    F_check_pattern := (fun_mk (st := s_check_pattern) l_check_pattern e_check_pattern k_check_pattern)
    b_check_pattern := ((fun_mk (st := s_check_pattern) l_check_pattern e_check_pattern k_check_pattern).binds (ps := ["boxes", "gap", "times"]) fun _ _ _ _ _ _ us hl => match us, hl with | [_, _, _], _ => rfl)
    m_check_pattern := (PySem.W.mg_of X G a_check_pattern)
    F_check_whole := (fun_mk (st := s_check_whole) l_check_whole e_check_whole k_check_whole)
    b_check_whole := ((fun_mk (st := s_check_whole) l_check_whole e_check_whole k_check_whole).binds (ps := ["whole"]) fun _ _ _ _ _ _ us hl => match us, hl with | [_], _ => rfl)
    m_check_whole := (PySem.W.mg_of X G a_check_whole)
    F_limited := (fun_mk (st := s_limited) l_limited e_limited k_limited)
    b_limited := ((fun_mk (st := s_limited) l_limited e_limited k_limited).binds (ps := ["value", "least", "most"]) fun _ _ _ _ _ _ us hl => match us, hl with | [_, _, _], _ => rfl)
    m_limited := (PySem.W.mg_of X G a_limited)
    F_Box_own := (fun_mk (st := s_Box_own) l_Box_own e_Box_own k_Box_own)
    b_Box_own := ((fun_mk (st := s_Box_own) l_Box_own e_Box_own k_Box_own).binds (ps := ["self"]) fun _ _ _ _ _ _ us hl => match us, hl with | [_], _ => rfl)
    F_boxes_that_fit := (fun_mk (st := s_boxes_that_fit) l_boxes_that_fit e_boxes_that_fit k_boxes_that_fit)
    b_boxes_that_fit := ((fun_mk (st := s_boxes_that_fit) l_boxes_that_fit e_boxes_that_fit k_boxes_that_fit).binds (ps := ["costs", "place", "room"]) fun _ _ _ _ _ _ us hl => match us, hl with | [_, _, _], _ => rfl)
    m_boxes_that_fit := (PySem.W.mg_of X G a_boxes_that_fit)
    F_Lines_length_at := (fun_mk (st := s_Lines_length_at) l_Lines_length_at e_Lines_length_at k_Lines_length_at)
    b_Lines_length_at := ((fun_mk (st := s_Lines_length_at) l_Lines_length_at e_Lines_length_at k_Lines_length_at).binds (ps := ["self", "place"]) fun _ _ _ _ _ _ us hl => match us, hl with | [_, _], _ => rfl)
    F_Lines_add_line := (fun_mk (st := s_Lines_add_line) l_Lines_add_line e_Lines_add_line k_Lines_add_line)
    b_Lines_add_line := ((fun_mk (st := s_Lines_add_line) l_Lines_add_line e_Lines_add_line k_Lines_add_line).binds (ps := ["self"]) fun _ _ _ _ _ _ us hl => match us, hl with | [_], _ => rfl)
    F_Lines_d_init_d := (fun_mk (st := s_Lines_d_init_d) l_Lines_d_init_d e_Lines_d_init_d k_Lines_d_init_d)
    b_Lines_d_init_d := ((fun_mk (st := s_Lines_d_init_d) l_Lines_d_init_d e_Lines_d_init_d k_Lines_d_init_d).binds (ps := ["self", "boxes", "gap", "times", "whole"]) fun _ _ _ _ _ _ us hl => match us, hl with | [_, _, _, _, _], _ => rfl)
    F_lines_of := (fun_mk (st := s_lines_of) l_lines_of e_lines_of k_lines_of)
    b_lines_of := ((fun_mk (st := s_lines_of) l_lines_of e_lines_of k_lines_of).binds (ps := ["boxes", "gap", "times", "whole"]) fun _ _ _ _ _ _ us hl => match us, hl with | [_, _, _, _], _ => rfl)
    m_lines_of := (PySem.W.mg_of X G a_lines_of)
    F_count_lines := (fun_mk (st := s_count_lines) l_count_lines e_count_lines k_count_lines)
    b_count_lines := ((fun_mk (st := s_count_lines) l_count_lines e_count_lines k_count_lines).binds (ps := ["boxes", "gap", "times", "whole"]) fun _ _ _ _ _ _ us hl => match us, hl with | [_, _, _, _], _ => rfl)
    m_count_lines := (PySem.W.mg_of X G a_count_lines)
    F_check_index := (fun_mk (st := s_check_index) l_check_index e_check_index k_check_index)
    b_check_index := ((fun_mk (st := s_check_index) l_check_index e_check_index k_check_index).binds (ps := ["index", "many"]) fun _ _ _ _ _ _ us hl => match us, hl with | [_, _], _ => rfl)
    m_check_index := (PySem.W.mg_of X G a_check_index)
    F_Lines_begin := (fun_mk (st := s_Lines_begin) l_Lines_begin e_Lines_begin k_Lines_begin)
    b_Lines_begin := ((fun_mk (st := s_Lines_begin) l_Lines_begin e_Lines_begin k_Lines_begin).binds (ps := ["self", "index"]) fun _ _ _ _ _ _ us hl => match us, hl with | [_, _], _ => rfl)
    F_line_of := (fun_mk (st := s_line_of) l_line_of e_line_of k_line_of)
    b_line_of := ((fun_mk (st := s_line_of) l_line_of e_line_of k_line_of).binds (ps := ["boxes", "gap", "times", "whole", "index"]) fun _ _ _ _ _ _ us hl => match us, hl with | [_, _, _, _, _], _ => rfl)
    m_line_of := (PySem.W.mg_of X G a_line_of)
    F_Lines_length := (fun_mk (st := s_Lines_length) l_Lines_length e_Lines_length k_Lines_length)
    b_Lines_length := ((fun_mk (st := s_Lines_length) l_Lines_length e_Lines_length k_Lines_length).binds (ps := ["self", "index"]) fun _ _ _ _ _ _ us hl => match us, hl with | [_, _], _ => rfl)
    F_line_at := (fun_mk (st := s_line_at) l_line_at e_line_at k_line_at)
    b_line_at := ((fun_mk (st := s_line_at) l_line_at e_line_at k_line_at).binds (ps := ["boxes", "gap", "times", "whole", "index"]) fun _ _ _ _ _ _ us hl => match us, hl with | [_, _, _, _, _], _ => rfl)
    m_line_at := (PySem.W.mg_of X G a_line_at)
    F__law_sum := (fun_mk (st := s__law_sum) l__law_sum e__law_sum k__law_sum)
    b__law_sum := ((fun_mk (st := s__law_sum) l__law_sum e__law_sum k__law_sum).binds (ps := ["widths", "first", "many"]) fun _ _ _ _ _ _ us hl => match us, hl with | [_, _, _], _ => rfl)
    m__law_sum := (PySem.W.mg_of X G a__law_sum)
    F__law_line_right := (fun_mk (st := s__law_line_right) l__law_line_right e__law_line_right k__law_line_right)
    b__law_line_right := ((fun_mk (st := s__law_line_right) l__law_line_right e__law_line_right k__law_line_right).binds (ps := ["told", "widths", "gap", "whole_here", "line"]) fun _ _ _ _ _ _ us hl => match us, hl with | [_, _, _, _, _], _ => rfl)
    m__law_line_right := (PySem.W.mg_of X G a__law_line_right)
    F__law_right := (fun_mk (st := s__law_right) l__law_right e__law_right k__law_right)
    b__law_right := ((fun_mk (st := s__law_right) l__law_right e__law_right k__law_right).binds (ps := ["crib", "pattern", "most"]) fun _ _ _ _ _ _ us hl => match us, hl with | [_, _, _], _ => rfl)
    m__law_right := (PySem.W.mg_of X G a__law_right)
    F__law_width := (fun_mk (st := s__law_width) l__law_width e__law_width k__law_width)
    b__law_width := ((fun_mk (st := s__law_width) l__law_width e__law_width k__law_width).binds (ps := ["crib", "most"]) fun _ _ _ _ _ _ us hl => match us, hl with | [_, _], _ => rfl)
    m__law_width := (PySem.W.mg_of X G a__law_width)
    F__law_weight := (fun_mk (st := s__law_weight) l__law_weight e__law_weight k__law_weight)
    b__law_weight := ((fun_mk (st := s__law_weight) l__law_weight e__law_weight k__law_weight).binds (ps := ["crib", "heavy"]) fun _ _ _ _ _ _ us hl => match us, hl with | [_, _], _ => rfl)
    m__law_weight := (PySem.W.mg_of X G a__law_weight)
    F__law_box := (fun_mk (st := s__law_box) l__law_box e__law_box k__law_box)
    b__law_box := ((fun_mk (st := s__law_box) l__law_box e__law_box k__law_box).binds (ps := ["crib", "most", "heavy"]) fun _ _ _ _ _ _ us hl => match us, hl with | [_, _, _], _ => rfl)
    m__law_box := (PySem.W.mg_of X G a__law_box)
    F__law_pattern := (fun_mk (st := s__law_pattern) l__law_pattern e__law_pattern k__law_pattern)
    b__law_pattern := ((fun_mk (st := s__law_pattern) l__law_pattern e__law_pattern k__law_pattern).binds (ps := ["crib", "many", "most"]) fun _ _ _ _ _ _ us hl => match us, hl with | [_, _, _], _ => rfl)
    m__law_pattern := (PySem.W.mg_of X G a__law_pattern)
    F_law := (fun_mk (st := s_law) l_law e_law k_law)
    b_law := ((fun_mk (st := s_law) l_law e_law k_law).binds (ps := ["script"]) fun _ _ _ _ _ _ us hl => match us, hl with | [_], _ => rfl)
    m_law := (PySem.W.mg_of X G a_law)
    b4_Box_d_init_d := ((FunD.binds1 (ps := ["self", "wish", "least", "most", "grow", "shrink"]) (show FunD K "__init__" "Box.__init__" (defArgs s_Box_d_init_d) (defBody s_Box_d_init_d) (defScope s_Box_d_init_d) [V.int 0, V.non, V.int 0, V.int 0] [] f_Box_d_init_d (PySem.W.fnOf "__init__" "Box.__init__" (defArgs s_Box_d_init_d) (defBody s_Box_d_init_d) (defScope s_Box_d_init_d) (.ref T_Box_d_init_d) kV_Box_d_init_d dc_Box_d_init_d pm_Box_d_init_d an_Box_d_init_d cd_Box_d_init_d ct_Box_d_init_d) from ⟨⟨_, _, _, _, _, _, _, _, _, _, rfl, l_Box_d_init_d, e_Box_d_init_d, .inr ⟨by simp, _, _, _, _, rfl, T1_Box_d_init_d, rfl, .cons ⟨_, rfl⟩ (.cons rfl (.cons ⟨_, rfl⟩ (.cons ⟨_, rfl⟩ (.nil))))⟩, .inl rfl⟩, k_Box_d_init_d⟩) 2 0 (by simp) rfl fun _ _ _ _ _ _ _ us its hu hi => match us, hu, its, hi with | [_, _], _, [_, _, _, _], _ => ⟨_, rfl, rfl⟩))
    m_Box := (PySem.W.mg_of X G a_Box)
    cl_Box := (⟨pg_Box, hd_Box, po_Box, sa_Box⟩)
    no_Box__wish := (no_Box__wish)
    no_Box__least := (no_Box__least)
    no_Box__most := (no_Box__most)
    no_Box__grow := (no_Box__grow)
    no_Box__shrink := (no_Box__shrink)
    mk_Box := (⟨mk_Box, at_Box_d_init_d, fn_Box_d_init_d, kc_Box⟩)
    pr_Box_own := (⟨pa_Box_own, pb_Box_own, pc_Box_own, _, pd_Box_own⟩)
    is_Box := (⟨⟨pg_Box, hd_Box, po_Box, sa_Box⟩, ia_Box, ib_Box, ic_Box, id_Box⟩)
    m_Lines := (PySem.W.mg_of X G a_Lines)
    cl_Lines := (⟨pg_Lines, hd_Lines, po_Lines, sa_Lines⟩)
    no_Lines_wide := (no_Lines_wide)
    no_Lines_amount := (no_Lines_amount)
    no_Lines_costs := (no_Lines_costs)
    no_Lines_room := (no_Lines_room)
    no_Lines_starts := (no_Lines_starts)
    no_Lines_again := (no_Lines_again)
    mk_Lines := (⟨mk_Lines, at_Lines_d_init_d, fn_Lines_d_init_d, kc_Lines⟩)
    me_Lines_length_at := (⟨at_Lines_length_at, fn_Lines_length_at, k_Lines_length_at⟩)
    me_Lines_add_line := (⟨at_Lines_add_line, fn_Lines_add_line, k_Lines_add_line⟩)
    me_Lines_turn := (⟨at_Lines_turn, fn_Lines_turn, k_Lines_turn⟩)
    me_Lines_begin := (⟨at_Lines_begin, fn_Lines_begin, k_Lines_begin⟩)
    me_Lines_line_with := (⟨at_Lines_line_with, fn_Lines_line_with, k_Lines_line_with⟩)
    me_Lines_number := (⟨at_Lines_number, fn_Lines_number, k_Lines_number⟩)
    me_Lines_length := (⟨at_Lines_length, fn_Lines_length, k_Lines_length⟩)
    is_Lines := (⟨⟨pg_Lines, hd_Lines, po_Lines, sa_Lines⟩, ia_Lines, ib_Lines, ic_Lines, id_Lines⟩)
    c_HEAVIEST := (⟨_, PySem.W.mg_of X G x_HEAVIEST⟩)
    c_MOST_BOXES := (⟨_, PySem.W.mg_of X G x_MOST_BOXES⟩)
    c_MOST_TIMES := (⟨_, PySem.W.mg_of X G x_MOST_TIMES⟩)
    c_WIDEST := (⟨_, PySem.W.mg_of X G x_WIDEST⟩)
    n_all := (PySem.W.mg_none_of X G x_all)
    n_bool := (PySem.W.mg_none_of X G x_bool)
    n_divmod := (PySem.W.mg_none_of X G x_divmod)
    n_int := (PySem.W.mg_none_of X G x_int)
    n_isinstance := (PySem.W.mg_none_of X G x_isinstance)
    n_len := (PySem.W.mg_none_of X G x_len)
    n_list := (PySem.W.mg_none_of X G x_list)
    n_max := (PySem.W.mg_none_of X G x_max)
    n_min := (PySem.W.mg_none_of X G x_min)
    n_range := (PySem.W.mg_none_of X G x_range)
    n_sum := (PySem.W.mg_none_of X G x_sum) }
  exact ⟨q.d_law, CIof q, W_law K (CIof q), fun s u => .of_eq rfl, fun base _ _ => fng_of (ok_law T), hmain q T⟩
end Bx

namespace Bx
open PySem PySem.Spec PyProof.Rows L2 Z
local macro_rules | `(tactic| walk_at "zz") => `(tactic| simp only [zSeq, zAsg, zRet, zRetN, zIfS, zNext, zDrop, zPar, zPar3, zAug, zDivmod, zIndex, zCatT, zSlT, zMeth, zVar, zC, zOp, zUn, zNeg, zI0, zI, zTest, zAnd, zOr, zNot, zAndV, zOrV, zNotV, zIf, zNil, zCons, zTup, zLst, zLstC, zgName, zgTup, zgCons, zgNil, zgSub, startZ, zCall, zCB, zChain, zIsN, zNotN, zNever,
  zAddA, zMulA, zRepeat, zCat, zIx, seqD, lstD, zMax2, zMin2, zAbs, zLen, zSum, zGcd, zInt, zYes, zBreak, zCont, zMin1, zMax1, zList, zListC, zLcC, zLc, ziR1, ziR2, ziList, ziTup, ziZip, ziEnum, wipeZ, zFor, zSl, zPart, zNoPart, zAppend, zLstR1, zLstR2, zCallBC, zCallBF,
  at0, at1, at2, at3, at4, ix2_3, ix0_3, isNon_int, isNon_non, Bool.not_true, Bool.not_false,
  List.map_cons, List.map_nil, List.length_cons, List.length_nil, List.replicate_succ, List.replicate_zero, List.append_nil, List.nil_append, List.cons_append, List.getElem?_cons_zero, List.getElem?_cons_succ, List.set_cons_zero, List.set_cons_succ,
  Option.some.injEq, D.int.injEq, D.bl.injEq, D.tup.injEq, D.lst.injEq, D.str.injEq, D.cell.injEq, O.lst.injEq, reduceCtorEq, exists_eq_left', exists_eq_left, false_and, and_false, true_and, and_true, exists_false, or_false, false_or, exists_and_left, exists_eq', exists_and_right, List.cons.injEq, and_assoc, dec_not, dec_yes, nd_t, nd_f, t_t, t_f, f_t, f_f, true_implies, false_implies, implies_true, and_self, Nat.reduceAdd, Nat.reduceLeDiff, Nat.reduceSub, Nat.reduceLT])
local macro_rules | `(tactic| walk_at "zy") => `(tactic| try simp only [Option.some.injEq, D.int.injEq, D.bl.injEq, D.tup.injEq, D.lst.injEq, D.str.injEq, D.cell.injEq, O.lst.injEq, reduceCtorEq, exists_eq_left', exists_eq_left, false_and, and_false, true_and, and_true, exists_false, or_false, false_or, exists_and_left, exists_eq', exists_and_right, List.cons.injEq, and_assoc, dec_not, dec_yes, nd_t, nd_f, t_t, t_f, f_t, f_f, true_implies, false_implies, implies_true, and_self])
theorem main {K : PySem.W.Frag} {mg : Str → Option Value} {q : Ad} (T : Tx K mg q) : ∀ ns : List Int, ns.length ≤ 63 → W_law K (CIof q) [.scr ns] [] fun d _ => d = .bl true := fun ns hl => law_ok ⟨T.is_Box, rfl⟩ hl
end Bx

open PySem PySem.W PyProof.Rows
set_option maxRecDepth 100000 in
set_option maxHeartbeats 0 in
set_option pp.maxSteps 60 in
set_option pp.deepTerms false in
theorem PySem.Challenge.cw_boxrows_k39_lines_of_far_patterns_holds : PySem.Challenge.rw_boxrows_k39_lines_of_far_patterns.Holds := by
  w_on; o_law; k_head; (case hw => w_witness2)
  k_fill
  refine Z.walkZ (l := PySem.Challenge.rw_boxrows_k39_lines_of_far_patterns) (n := 63) (k := 10) (x := "script") rfl (by decide) rfl ⟨rfl, by decide, by decide⟩ (fun w h Y => PySem.W.kIn_of Y) ?F
  case F =>
    intro w mg fa h KX Gm hmg
    refine' Bx.all_mk KX Gm hmg ?a__law_crib ?l__law_crib ?e__law_crib ?k__law_crib ?a__law_pluck ?l__law_pluck ?e__law_pluck ?k__law_pluck ?a_is_int ?l_is_int ?e_is_int ?k_is_int ?a_in_bounds ?l_in_bounds ?e_in_bounds ?k_in_bounds ?a_are_box_numbers ?l_are_box_numbers ?e_are_box_numbers ?k_are_box_numbers ?a__law_made ?l__law_made ?e__law_made ?k__law_made ?a__law_limit ?l__law_limit ?e__law_limit ?k__law_limit ?a__law_own ?l__law_own ?e__law_own ?k__law_own ?a_check_boxes ?l_check_boxes ?e_check_boxes ?k_check_boxes ?a_check_pattern ?l_check_pattern ?e_check_pattern ?k_check_pattern ?a_check_whole ?l_check_whole ?e_check_whole ?k_check_whole ?a_limited ?l_limited ?e_limited ?k_limited ?a_boxes_that_fit ?l_boxes_that_fit ?e_boxes_that_fit ?k_boxes_that_fit ?a_lines_of ?l_lines_of ?e_lines_of ?k_lines_of ?a_count_lines ?l_count_lines ?e_count_lines ?k_count_lines ?a_check_index ?l_check_index ?e_check_index ?k_check_index ?a_line_of ?l_line_of ?e_line_of ?k_line_of ?a_line_at ?l_line_at ?e_line_at ?k_line_at ?a__law_sum ?l__law_sum ?e__law_sum ?k__law_sum ?a__law_line_right ?l__law_line_right ?e__law_line_right ?k__law_line_right ?a__law_right ?l__law_right ?e__law_right ?k__law_right ?a__law_width ?l__law_width ?e__law_width ?k__law_width ?a__law_weight ?l__law_weight ?e__law_weight ?k__law_weight ?a__law_box ?l__law_box ?e__law_box ?k__law_box ?a__law_pattern ?l__law_pattern ?e__law_pattern ?k__law_pattern ?a_law ?l_law ?e_law ?k_law ?a_Box ?pg_Box ?hd_Box ?po_Box ?sa_Box ?no_Box__wish ?no_Box__least ?no_Box__most ?no_Box__grow ?no_Box__shrink ?at_Box_d_init_d ?fn_Box_d_init_d ?mk_Box ?kc_Box ?pa_Box_wish ?pa_Box_least ?pa_Box_most ?pa_Box_grow ?pa_Box_shrink ?pa_Box_own ?pb_Box_own ?pc_Box_own ?pd_Box_own ?ia_Box ?ib_Box ?ic_Box ?id_Box ?a_Lines ?pg_Lines ?hd_Lines ?po_Lines ?sa_Lines ?no_Lines_wide ?no_Lines_amount ?no_Lines_costs ?no_Lines_room ?no_Lines_starts ?no_Lines_again ?at_Lines_d_init_d ?fn_Lines_d_init_d ?mk_Lines ?kc_Lines ?at_Lines_length_at ?fn_Lines_length_at ?at_Lines_add_line ?fn_Lines_add_line ?at_Lines_turn ?fn_Lines_turn ?at_Lines_begin ?fn_Lines_begin ?at_Lines_line_with ?fn_Lines_line_with ?at_Lines_number ?fn_Lines_number ?at_Lines_length ?fn_Lines_length ?ia_Lines ?ib_Lines ?ic_Lines ?id_Lines ?x_HEAVIEST ?x_MOST_BOXES ?x_MOST_TIMES ?x_WIDEST ?x_all ?x_bool ?x_divmod ?x_int ?x_isinstance ?x_len ?x_list ?x_max ?x_min ?x_range ?x_sum ?l_Box_d_init_d ?e_Box_d_init_d ?k_Box_d_init_d ?T1_Box_d_init_d ?l_Lines_turn ?e_Lines_turn ?k_Lines_turn ?l_Lines_line_with ?e_Lines_line_with ?k_Lines_line_with ?l_Lines_number ?e_Lines_number ?k_Lines_number ?l_Box_own ?e_Box_own ?k_Box_own ?l_Lines_length_at ?e_Lines_length_at ?k_Lines_length_at ?l_Lines_add_line ?e_Lines_add_line ?k_Lines_add_line ?l_Lines_d_init_d ?e_Lines_d_init_d ?k_Lines_d_init_d ?l_Lines_begin ?e_Lines_begin ?k_Lines_begin ?l_Lines_length ?e_Lines_length ?k_Lines_length ?main
    (case a__law_crib => k_is)
    (case l__law_crib => k_is)
    (case e__law_crib => k_is)
    (case k__law_crib => k_is)
    (case a__law_pluck => k_is)
    (case l__law_pluck => k_is)
    (case e__law_pluck => k_is)
    (case k__law_pluck => k_is)
    (case a_is_int => k_is)
    (case l_is_int => k_is)
    (case e_is_int => k_is)
    (case k_is_int => k_is)
    (case a_in_bounds => k_is)
    (case l_in_bounds => k_is)
    (case e_in_bounds => k_is)
    (case k_in_bounds => k_is)
    (case a_are_box_numbers => k_is)
    (case l_are_box_numbers => k_is)
    (case e_are_box_numbers => k_is)
    (case k_are_box_numbers => k_is)
    (case a__law_made => k_is)
    (case l__law_made => k_is)
    (case e__law_made => k_is)
    (case k__law_made => k_is)
    (case a__law_limit => k_is)
    (case l__law_limit => k_is)
    (case e__law_limit => k_is)
    (case k__law_limit => k_is)
    (case a__law_own => k_is)
    (case l__law_own => k_is)
    (case e__law_own => k_is)
    (case k__law_own => k_is)
    (case a_check_boxes => k_is)
    (case l_check_boxes => k_is)
    (case e_check_boxes => k_is)
    (case k_check_boxes => k_is)
    (case a_check_pattern => k_is)
    (case l_check_pattern => k_is)
    (case e_check_pattern => k_is)
    (case k_check_pattern => k_is)
    (case a_check_whole => k_is)
    (case l_check_whole => k_is)
    (case e_check_whole => k_is)
    (case k_check_whole => k_is)
    (case a_limited => k_is)
    (case l_limited => k_is)
    (case e_limited => k_is)
    (case k_limited => k_is)
    (case a_boxes_that_fit => k_is)
    (case l_boxes_that_fit => k_is)
    (case e_boxes_that_fit => k_is)
    (case k_boxes_that_fit => k_is)
    (case a_lines_of => k_is)
    (case l_lines_of => k_is)
    (case e_lines_of => k_is)
    (case k_lines_of => k_is)
    (case a_count_lines => k_is)
    (case l_count_lines => k_is)
    (case e_count_lines => k_is)
    (case k_count_lines => k_is)
    (case a_check_index => k_is)
    (case l_check_index => k_is)
    (case e_check_index => k_is)
    (case k_check_index => k_is)
    (case a_line_of => k_is)
    (case l_line_of => k_is)
    (case e_line_of => k_is)
    (case k_line_of => k_is)
    (case a_line_at => k_is)
    (case l_line_at => k_is)
    (case e_line_at => k_is)
    (case k_line_at => k_is)
    (case a__law_sum => k_is)
    (case l__law_sum => k_is)
    (case e__law_sum => k_is)
    (case k__law_sum => k_is)
    (case a__law_line_right => k_is)
    (case l__law_line_right => k_is)
    (case e__law_line_right => k_is)
    (case k__law_line_right => k_is)
    (case a__law_right => k_is)
    (case l__law_right => k_is)
    (case e__law_right => k_is)
    (case k__law_right => k_is)
    (case a__law_width => k_is)
    (case l__law_width => k_is)
    (case e__law_width => k_is)
    (case k__law_width => k_is)
    (case a__law_weight => k_is)
    (case l__law_weight => k_is)
    (case e__law_weight => k_is)
    (case k__law_weight => k_is)
    (case a__law_box => k_is)
    (case l__law_box => k_is)
    (case e__law_box => k_is)
    (case k__law_box => k_is)
    (case a__law_pattern => k_is)
    (case l__law_pattern => k_is)
    (case e__law_pattern => k_is)
    (case k__law_pattern => k_is)
    (case a_law => k_is)
    (case l_law => k_is)
    (case e_law => k_is)
    (case k_law => k_is)
    (case a_Box => k_is)
    (case pg_Box => k_is)
    (case hd_Box => k_is)
    (case po_Box => k_is)
    (case sa_Box => k_is)
    (case no_Box__wish => k_is)
    (case no_Box__least => k_is)
    (case no_Box__most => k_is)
    (case no_Box__grow => k_is)
    (case no_Box__shrink => k_is)
    (case at_Box_d_init_d => k_is)
    (case fn_Box_d_init_d => k_is)
    (case mk_Box => k_is)
    (case kc_Box => k_is)
    (case pa_Box_wish => k_is)
    (case pa_Box_least => k_is)
    (case pa_Box_most => k_is)
    (case pa_Box_grow => k_is)
    (case pa_Box_shrink => k_is)
    (case pa_Box_own => k_is)
    (case pb_Box_own => k_is)
    (case pc_Box_own => k_is)
    (case pd_Box_own => k_is)
    (case ia_Box => k_is)
    (case ib_Box => k_is)
    (case ic_Box => k_is)
    (case id_Box => k_is)
    (case a_Lines => k_is)
    (case pg_Lines => k_is)
    (case hd_Lines => k_is)
    (case po_Lines => k_is)
    (case sa_Lines => k_is)
    (case no_Lines_wide => k_is)
    (case no_Lines_amount => k_is)
    (case no_Lines_costs => k_is)
    (case no_Lines_room => k_is)
    (case no_Lines_starts => k_is)
    (case no_Lines_again => k_is)
    (case at_Lines_d_init_d => k_is)
    (case fn_Lines_d_init_d => k_is)
    (case mk_Lines => k_is)
    (case kc_Lines => k_is)
    (case at_Lines_length_at => k_is)
    (case fn_Lines_length_at => k_is)
    (case at_Lines_add_line => k_is)
    (case fn_Lines_add_line => k_is)
    (case at_Lines_turn => k_is)
    (case fn_Lines_turn => k_is)
    (case at_Lines_begin => k_is)
    (case fn_Lines_begin => k_is)
    (case at_Lines_line_with => k_is)
    (case fn_Lines_line_with => k_is)
    (case at_Lines_number => k_is)
    (case fn_Lines_number => k_is)
    (case at_Lines_length => k_is)
    (case fn_Lines_length => k_is)
    (case ia_Lines => k_is)
    (case ib_Lines => k_is)
    (case ic_Lines => k_is)
    (case id_Lines => k_is)
    (case x_HEAVIEST => k_is)
    (case x_MOST_BOXES => k_is)
    (case x_MOST_TIMES => k_is)
    (case x_WIDEST => k_is)
    (case x_all => k_is)
    (case x_bool => k_is)
    (case x_divmod => k_is)
    (case x_int => k_is)
    (case x_isinstance => k_is)
    (case x_len => k_is)
    (case x_list => k_is)
    (case x_max => k_is)
    (case x_min => k_is)
    (case x_range => k_is)
    (case x_sum => k_is)
    (case l_Box_d_init_d => k_is)
    (case e_Box_d_init_d => k_is)
    (case k_Box_d_init_d => k_is)
    (case T1_Box_d_init_d => k_is)
    (case l_Lines_turn => k_is)
    (case e_Lines_turn => k_is)
    (case k_Lines_turn => k_is)
    (case l_Lines_line_with => k_is)
    (case e_Lines_line_with => k_is)
    (case k_Lines_line_with => k_is)
    (case l_Lines_number => k_is)
    (case e_Lines_number => k_is)
    (case k_Lines_number => k_is)
    (case l_Box_own => k_is)
    (case e_Box_own => k_is)
    (case k_Box_own => k_is)
    (case l_Lines_length_at => k_is)
    (case e_Lines_length_at => k_is)
    (case k_Lines_length_at => k_is)
    (case l_Lines_add_line => k_is)
    (case e_Lines_add_line => k_is)
    (case k_Lines_add_line => k_is)
    (case l_Lines_d_init_d => k_is)
    (case e_Lines_d_init_d => k_is)
    (case k_Lines_d_init_d => k_is)
    (case l_Lines_begin => k_is)
    (case e_Lines_begin => k_is)
    (case k_Lines_begin => k_is)
    (case l_Lines_length => k_is)
    (case e_Lines_length => k_is)
    (case k_Lines_length => k_is)
    (case main => exact fun q T => Bx.main T)
