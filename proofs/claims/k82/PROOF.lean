import PyProof.Rows.All
import Wide.All
import OpenK.AllK
import Wide.FinOn
import HandS.ForMost
import HandS.Walk
import HandS.Wide
import HandS.Gcd
import HandS.Property
import HandS.Star
import HandS.IsInst
import HandS.OwnEq
import HandS.Style
import HandS.Defaults
import HandS.MakeKw
import HandS.MakeKwOnly
import KE.KMathG
import HandS.DictComp
import HandS.SortInts
import HandS.SortKw
import HandS.TryOnly
import KE.GoesMore
import HandS.SetFor
import HandS.Strs
import HandS.Conv
import HandS.SetBool
import HandS.Rev
import PySem.Challenge.RW_boxrows_k82_whole_repeated_drags
set_option Elab.async false
set_option linter.all false
set_option maxRecDepth 100000
set_option maxHeartbeats 4000000
/-! Z1: data without addresses (D), a store of mutable lists (cells), what represents them on the abstract heap, and readings over them (ZE, ZT, ZA, ZS) that the layer's readings refine. -/
namespace Z
open PySem L2

/-- data: what a value is, all the way down; cell n: the n-th mutable object; scr: the script; ins: an instance that never changes -/
inductive D where
  | non | bl (b : Bool) | int (i : Int) | str (x : Str) | ty (n : String)
  | tup (ds : List D) | lst (ds : List D) | ins (c : Nat) (ds : List D) | cell (n : Nat) | scr (ns : List Int) | cls (c : Nat) | dct (ks : List Int) (ds : List D)
/-- what a cell holds -/
inductive O where
  | lst (ds : List D)
  | ins (c : Nat) (fs : List (Str × D))
  | dct (ks : List Int) (ds : List D)
abbrev Store := List O
/-- the classes: where each stands, its attributes in order -/
structure CI where
  adr : Nat → Addr
  nms : Nat → List Str

section
variable (K : PySem.W.Frag) (C : CI) (S A : List Addr) (H : Hp)
mutual
inductive Rep : V → D → Prop where
  | non : Rep .non .non
  | bl (b : Bool) : Rep (.bl b) (.bl b)
  | int (i : Int) : Rep (.int i) (.int i)
  | str (x : Str) : Rep (.str x) (.str x)
  | ty (n : String) : Rep (.ty n) (.ty n)
  | tup {a : Addr} {xs : List V} {ds : List D} (h : H a = some (.tup xs)) (hA : a ∉ A) (hS : a ∉ S) (r : RepL xs ds) : Rep (.ref a) (.tup ds)
  | lst {a : Addr} {xs : List V} {ds : List D} (h : H a = some (.lst xs)) (hA : a ∉ A) (hS : a ∉ S) (r : RepL xs ds) : Rep (.ref a) (.lst ds)
  | ins {a dx : Addr} {c : Nat} {xs : List V} {ds : List D} (h : H a = some (.ins (C.adr c) dx ((C.nms c).zip xs))) (hA : a ∉ A) (hS : a ∉ S) (hl : xs.length = (C.nms c).length) (r : RepL xs ds) : Rep (.ref a) (.ins c ds)
  | cell {a : Addr} {n : Nat} (h : A[n]? = some a) : Rep (.ref a) (.cell n)
  | dct {a : Addr} {ks : List Int} {xs : List V} {ds : List D} (h : H a = some (.dK ((ks.map Sum.inl).zip xs))) (hA : a ∉ A) (hS : a ∉ S) (hl : xs.length = ks.length) (r : RepL xs ds) : Rep (.ref a) (.dct ks ds)
  | cls (c : Nat) : Rep (.ref (C.adr c)) (.cls c)
  | scr {a : Addr} {ns : List Int} (h : (∃ o, H a = some (.frz o (.lst (ns.map V.int)))) ∧ a ∉ A ∧ a ∉ S ∨ (∃ (o : Obj) (its : Array Value) (n : Nat), K.lookup a = some o ∧ o.cls = .type "list" ∧ o.dict = none ∧ o.data = .seq its n ∧ its.size ≤ sizeLine ∧ Vals (ns.map V.int) its.toList)) : Rep (.ref a) (.scr ns)
inductive RepL : List V → List D → Prop where
  | nil : RepL [] []
  | cons {v : V} {vs : List V} {d : D} {ds : List D} (h : Rep v d) (r : RepL vs ds) : RepL (v :: vs) (d :: ds)
end
/-- what stands at a cell's address -/
def CellAt (a : Addr) : O → Prop
  | .lst ds => ∃ xs, H a = some (.lst xs) ∧ RepL K C S A H xs ds
  | .ins c fs => ∃ dx xs, H a = some (.ins (C.adr c) dx xs) ∧ xs.map (·.1) = fs.map (·.1) ∧ RepL K C S A H (xs.map (·.2)) (fs.map (·.2))
  | .dct ks ds => ∃ xs, H a = some (.dK ((ks.map Sum.inl).zip xs)) ∧ xs.length = ks.length ∧ RepL K C S A H xs ds
/-- cells: the n-th address holds the n-th content -/
structure Cells (Δ : Store) : Prop where
  len : A.length = Δ.length
  nd : A.Nodup
  dj : ∀ a ∈ A, a ∉ S
  as : ∀ a ∈ S, H a ≠ none
  at_ : ∀ (n : Nat) (a : Addr) (o : O), A[n]? = some a → Δ[n]? = some o → CellAt K C S A H a o
/-- slots -/
structure Slots (σ : L2.St) (Γ : List (Option D)) : Prop where
  len : σ.length = Γ.length
  at_ : ∀ (i : Nat) (d : D), Γ[i]? = some (some d) → ∃ v, σ[i]? = some (some v) ∧ Rep K C S A H v d
end
/-- the heap goes on: new cells B, all but the cells kept -/
structure Ext (A : List Addr) (H : Hp) (A' : List Addr) (H' : Hp) : Prop where
  pre : ∃ B, A' = A ++ B ∧ ∀ b ∈ B, H b = none
  keep : ∀ a o, a ∉ A → H a = some o → H' a = some o
  trk : ∀ a, H' a = none → H a = none

theorem Ext.refl (A : List Addr) (H : Hp) : Ext A H A H := ⟨⟨[], by simp, by simp⟩, fun _ _ _ h => h, fun _ h => h⟩
theorem Ext.trans {A A1 A2 : List Addr} {H H1 H2 : Hp} (e : Ext A H A1 H1) (f : Ext A1 H1 A2 H2) : Ext A H A2 H2 := by
  obtain ⟨B, hB, nB⟩ := e.pre
  obtain ⟨B', hB', nB'⟩ := f.pre
  refine ⟨⟨B ++ B', by rw [hB', hB, List.append_assoc], fun b hb => ?_⟩, fun a o ha h => ?_, fun a h => e.trk a (f.trk a h)⟩
  · rcases List.mem_append.mp hb with hb | hb
    · exact nB b hb
    · exact e.trk b (nB' b hb)
  · refine f.keep a o ?_ (e.keep a o ha h)
    rw [hB]
    intro hm
    rcases List.mem_append.mp hm with hm | hm
    · exact ha hm
    · rw [nB a hm] at h
      cases h
/-- a new object -/
theorem Ext.new {A : List Addr} {H : Hp} {p : Addr} {o : HO} (h : H p = none) : Ext A H A (upd H p o) := by
  refine ⟨⟨[], by simp, by simp⟩, fun a u _ e => by rw [upd_ne (ne_of_none e h)]; exact e, fun a e => ?_⟩
  by_cases q : a = p
  · subst q; exact h
  · rw [upd_ne q] at e; exact e
/-- a new object, made a cell -/
theorem Ext.newCell {A : List Addr} {H : Hp} {p : Addr} {o : HO} (h : H p = none) : Ext A H (A ++ [p]) (upd H p o) := by
  refine ⟨⟨[p], rfl, by simp [h]⟩, fun a u _ e => by rw [upd_ne (ne_of_none e h)]; exact e, fun a e => ?_⟩
  by_cases q : a = p
  · subst q; exact h
  · rw [upd_ne q] at e; exact e
/-- a cell is written -/
theorem Ext.write {A : List Addr} {H : Hp} {p : Addr} {o : HO} (hp : p ∈ A) (h : H p ≠ none) : Ext A H A (upd H p o) := by
  refine ⟨⟨[], by simp, by simp⟩, fun a u ha e => ?_, fun a e => ?_⟩
  · rw [upd_ne (fun q => ha (by rw [q]; exact hp))]; exact e
  · by_cases q : a = p
    · subst q; rw [upd_same] at e; cases e
    · rw [upd_ne q] at e; exact e
section
variable {K : PySem.W.Frag} {C : CI} {S S' A A' : List Addr} {H H' : Hp}
/-- the weakest going on that keeps what is represented -/
structure Mo (S A : List Addr) (H : Hp) (S' A' : List Addr) (H' : Hp) : Prop where
  pre : ∃ B, A' = A ++ B ∧ ∀ b ∈ B, H b = none
  sub : ∀ b ∈ S', b ∈ S ∨ H b = none
  keep : ∀ a o, a ∉ A → a ∉ S → H a = some o → H' a = some o
theorem Ext.mo (e : Ext A H A' H') : Mo S A H S A' H' := ⟨e.pre, fun _ h => .inl h, fun a o h1 _ h => e.keep a o h1 h⟩
theorem Mo.notA (m : Mo S A H S' A' H') {a : Addr} {o : HO} (ha : a ∉ A) (h : H a = some o) : a ∉ A' := by
  obtain ⟨B, hB, nB⟩ := m.pre
  rw [hB]
  intro hm
  rcases List.mem_append.mp hm with hm | hm
  · exact ha hm
  · rw [nB a hm] at h
    cases h
theorem Mo.notS (m : Mo S A H S' A' H') {a : Addr} {o : HO} (ha : a ∉ S) (h : H a = some o) : a ∉ S' := fun hm => by
  rcases m.sub a hm with hm | hm
  · exact ha hm
  · rw [hm] at h; cases h
mutual
theorem Rep.mono (m : Mo S A H S' A' H') : ∀ (d : D) {v : V}, Rep K C S A H v d → Rep K C S' A' H' v d
  | .non, _, h => by cases h; exact .non
  | .bl b, _, h => by cases h; exact .bl b
  | .int i, _, h => by cases h; exact .int i
  | .str x, _, h => by cases h; exact .str x
  | .ty n, _, h => by cases h; exact .ty n
  | .cls c, _, h => by cases h; exact .cls c
  | .tup ds, _, h => by
    cases h with
    | tup h hA hS r => exact .tup (m.keep _ _ hA hS h) (m.notA hA h) (m.notS hS h) (RepL.mono m ds r)
  | .lst ds, _, h => by
    cases h with
    | lst h hA hS r => exact .lst (m.keep _ _ hA hS h) (m.notA hA h) (m.notS hS h) (RepL.mono m ds r)
  | .ins c ds, _, h => by
    cases h with
    | ins h hA hS hl r => exact .ins (m.keep _ _ hA hS h) (m.notA hA h) (m.notS hS h) hl (RepL.mono m ds r)
  | .dct ks ds, _, h => by
    cases h with
    | dct h hA hS hl r => exact .dct (m.keep _ _ hA hS h) (m.notA hA h) (m.notS hS h) hl (RepL.mono m ds r)
  | .cell n, _, h => by
    cases h with
    | cell h =>
      obtain ⟨B, hB, _⟩ := m.pre
      refine .cell ?_
      rw [hB, List.getElem?_append_left (List.getElem?_eq_some_iff.mp h).1]
      exact h
  | .scr ns, _, h => by
    cases h with
    | scr h =>
      refine .scr ?_
      rcases h with ⟨⟨o, h⟩, hA, hS⟩ | h
      · exact .inl ⟨⟨o, m.keep _ _ hA hS h⟩, m.notA hA h, m.notS hS h⟩
      · exact .inr h
theorem RepL.mono (m : Mo S A H S' A' H') : ∀ (ds : List D) {vs : List V}, RepL K C S A H vs ds → RepL K C S' A' H' vs ds
  | [], _, h => by cases h; exact .nil
  | d :: ds, _, h => by
    cases h with
    | cons h r => exact .cons (Rep.mono m d h) (RepL.mono m ds r)
end
theorem Rep.ext {v : V} {d : D} (e : Ext A H A' H') (h : Rep K C S A H v d) : Rep K C S A' H' v d := Rep.mono e.mo d h
theorem RepL.ext {vs : List V} {ds : List D} (e : Ext A H A' H') (h : RepL K C S A H vs ds) : RepL K C S A' H' vs ds := RepL.mono e.mo ds h
theorem RepL.length : ∀ {vs : List V} {ds : List D}, RepL K C S A H vs ds → vs.length = ds.length
  | _, _, .nil => rfl
  | _, _, .cons _ r => congrArg (· + 1) (RepL.length r)
theorem RepL.get : ∀ {vs : List V} {ds : List D} {i : Nat} {d : D}, RepL K C S A H vs ds → ds[i]? = some d → ∃ v, vs[i]? = some v ∧ Rep K C S A H v d
  | _, _, _, _, .nil, e => by simp at e
  | _, _, 0, _, .cons h _, e => by simp at e; subst e; exact ⟨_, rfl, h⟩
  | _, _, i + 1, _, .cons _ r, e => by
    obtain ⟨v, h1, h2⟩ := RepL.get (i := i) r (by simpa using e)
    exact ⟨v, by simpa using h1, h2⟩
theorem RepL.getV : ∀ {vs : List V} {ds : List D} {i : Nat} {v : V}, RepL K C S A H vs ds → vs[i]? = some v → ∃ d, ds[i]? = some d ∧ Rep K C S A H v d
  | _, _, _, _, .nil, e => by simp at e
  | _, _, 0, _, .cons h _, e => by simp at e; subst e; exact ⟨_, rfl, h⟩
  | _, _, i + 1, _, .cons _ r, e => by
    obtain ⟨v, h1, h2⟩ := RepL.getV (i := i) r (by simpa using e)
    exact ⟨v, by simpa using h1, h2⟩
theorem RepL.append : ∀ {vs ws : List V} {ds es : List D}, RepL K C S A H vs ds → RepL K C S A H ws es → RepL K C S A H (vs ++ ws) (ds ++ es)
  | _, _, _, _, .nil, q => q
  | _, _, _, _, .cons h r, q => .cons h (RepL.append r q)
theorem RepL.take : ∀ {vs : List V} {ds : List D} (n : Nat), RepL K C S A H vs ds → RepL K C S A H (vs.take n) (ds.take n)
  | _, _, 0, _ => .nil
  | _, _, _ + 1, .nil => .nil
  | _, _, n + 1, .cons h r => .cons h (RepL.take n r)
theorem RepL.drop : ∀ {vs : List V} {ds : List D} (n : Nat), RepL K C S A H vs ds → RepL K C S A H (vs.drop n) (ds.drop n)
  | _, _, 0, r => r
  | _, _, _ + 1, .nil => .nil
  | _, _, n + 1, .cons _ r => RepL.drop n r
theorem RepL.reverse : ∀ {vs : List V} {ds : List D}, RepL K C S A H vs ds → RepL K C S A H vs.reverse ds.reverse
  | _, _, .nil => .nil
  | _, _, .cons h r => by
    rw [List.reverse_cons, List.reverse_cons]
    exact RepL.append (RepL.reverse r) (.cons h .nil)
theorem RepL.set : ∀ {vs : List V} {ds : List D} {v : V} {d : D} (i : Nat), Rep K C S A H v d → RepL K C S A H vs ds → RepL K C S A H (vs.set i v) (ds.set i d)
  | _, _, _, _, _, _, .nil => .nil
  | _, _, _, _, 0, q, .cons _ r => .cons q r
  | _, _, _, _, i + 1, q, .cons h r => .cons h (RepL.set i q r)
theorem RepL.repl (k : Nat) {vs : List V} {ds : List D} (r : RepL K C S A H vs ds) : RepL K C S A H (List.replicate k vs).flatten (List.replicate k ds).flatten := by
  induction k with
  | zero => exact .nil
  | succ k ih =>
    rw [List.replicate_succ, List.replicate_succ, List.flatten_cons, List.flatten_cons]
    exact RepL.append r ih
theorem Slots.ext {σ : L2.St} {Γ : List (Option D)} (e : Ext A H A' H') (h : Slots K C S A H σ Γ) : Slots K C S A' H' σ Γ :=
  ⟨h.len, fun i d q => by obtain ⟨v, h1, h2⟩ := h.at_ i d q; exact ⟨v, h1, h2.ext e⟩⟩
theorem Slots.mono {σ : L2.St} {Γ : List (Option D)} (m : Mo S A H S' A' H') (h : Slots K C S A H σ Γ) : Slots K C S' A' H' σ Γ :=
  ⟨h.len, fun i d q => by obtain ⟨v, h1, h2⟩ := h.at_ i d q; exact ⟨v, h1, Rep.mono m d h2⟩⟩
theorem Slots.set {σ : L2.St} {Γ : List (Option D)} {v : V} {d : D} (h : Slots K C S A H σ Γ) (i : Nat) (r : Rep K C S A H v d) : Slots K C S A H (σ.set i (some v)) (Γ.set i (some d)) := by
  refine ⟨by rw [List.length_set, List.length_set]; exact h.len, fun j e q => ?_⟩
  by_cases hj : j = i
  · subst hj
    have hlt : j < Γ.length := by
      have := (List.getElem?_eq_some_iff.mp q).1
      rw [List.length_set] at this
      exact this
    rw [List.getElem?_set_self hlt] at q
    cases q
    exact ⟨v, List.getElem?_set_self (by rw [h.len]; exact hlt), r⟩
  · rw [List.getElem?_set_ne (Ne.symm hj)] at q
    obtain ⟨w, h1, h2⟩ := h.at_ j e q
    exact ⟨w, by rw [List.getElem?_set_ne (Ne.symm hj)]; exact h1, h2⟩
/-- a cell's content, where its object is kept -/
theorem CellAt.mono {a : Addr} {o : O} (m : Mo S A H S' A' H') (k : ∀ u, H a = some u → H' a = some u) (h : CellAt K C S A H a o) : CellAt K C S' A' H' a o := by
  cases o with
  | lst ds =>
    obtain ⟨xs, e, r⟩ := h
    exact ⟨xs, k _ e, RepL.mono m ds r⟩
  | ins c fs =>
    obtain ⟨dx, xs, e, q, r⟩ := h
    exact ⟨dx, xs, k _ e, q, RepL.mono m _ r⟩
  | dct ks ds =>
    obtain ⟨xs, e, q, r⟩ := h
    exact ⟨xs, k _ e, q, RepL.mono m ds r⟩
theorem CellAt.trk {a : Addr} {o : O} (h : CellAt K C S A H a o) : H a ≠ none := by
  cases o with
  | lst ds =>
    obtain ⟨xs, e, r⟩ := h
    rw [e]; simp
  | ins c fs =>
    obtain ⟨dx, xs, e, q, r⟩ := h
    rw [e]; simp
  | dct ks ds =>
    obtain ⟨xs, e, q, r⟩ := h
    rw [e]; simp
/-- the cells, behind something that kept all tracked objects (and made nothing a cell) -/
theorem Cells.kept {Δ : Store} (h : Cells K C S A H Δ) (k : ∀ a o, H a = some o → H' a = some o) : Cells K C S A H' Δ := by
  refine ⟨h.len, h.nd, h.dj, fun a ha => ?_, fun n a o h1 h2 => ?_⟩
  · cases q : H a with
    | none => exact absurd q (h.as a ha)
    | some o => rw [k a o q]; simp
  · exact (h.at_ n a o h1 h2).mono ⟨⟨[], by simp, by simp⟩, fun _ h => .inl h, fun a o _ _ q => k a o q⟩ (k a)
end

/-! ### readings over data -/
abbrev Env := List (Option D)
abbrev ZE := Env → Store → (D → Store → Prop) → Prop
abbrev ZT := Env → Store → (Bool → Store → Prop) → Prop
abbrev ZA := Env → Store → (List D → Store → Prop) → Prop
structure ZEnds where
  nx : Env → Store → Prop
  rt : D → Store → Prop
  bk : Env → Store → Prop := fun _ _ => False
  ct : Env → Store → Prop := fun _ _ => False
abbrev ZS := ZEnds → Env → Store → Prop

def RefE (K : PySem.W.Frag) (C : CI) (te : TE) (z : ZE) : Prop := ∀ (S A : List Addr) (σ : L2.St) (H : Hp) (Γ : Env) (Δ : Store) (P : D → Store → Prop) (Q : VK), Slots K C S A H σ Γ → Cells K C S A H Δ → z Γ Δ P →
  (∀ v d A' H' Δ', Ext A H A' H' → Cells K C S A' H' Δ' → Rep K C S A' H' v d → P d Δ' → Q v H') → te σ H Q
def RefT (K : PySem.W.Frag) (C : CI) (tt : TT) (z : ZT) : Prop := ∀ (S A : List Addr) (σ : L2.St) (H : Hp) (Γ : Env) (Δ : Store) (P : Bool → Store → Prop) (Q : Bool → Hp → Prop), Slots K C S A H σ Γ → Cells K C S A H Δ → z Γ Δ P →
  (∀ b A' H' Δ', Ext A H A' H' → Cells K C S A' H' Δ' → P b Δ' → Q b H') → tt σ H Q
def RefA (K : PySem.W.Frag) (C : CI) (ta : TA) (z : ZA) : Prop := ∀ (S A : List Addr) (σ : L2.St) (H : Hp) (Γ : Env) (Δ : Store) (P : List D → Store → Prop) (Q : List V → Hp → Prop), Slots K C S A H σ Γ → Cells K C S A H Δ → z Γ Δ P →
  (∀ vs ds A' H' Δ', Ext A H A' H' → Cells K C S A' H' Δ' → RepL K C S A' H' vs ds → P ds Δ' → Q vs H') → ta σ H Q
/-- what a wish over slots and heap says where the wish over data is Z -/
def NxOk (K : PySem.W.Frag) (C : CI) (S A : List Addr) (H : Hp) (Z : Env → Store → Prop) (N : L2.St → Hp → Prop) : Prop :=
  ∀ σ' A' H' Γ' Δ', Ext A H A' H' → Slots K C S A' H' σ' Γ' → Cells K C S A' H' Δ' → Z Γ' Δ' → N σ' H'
structure EndsOk (K : PySem.W.Frag) (C : CI) (S A : List Addr) (H : Hp) (Z : ZEnds) (N : Ends) : Prop where
  nx : NxOk K C S A H Z.nx N.nx
  bk : NxOk K C S A H Z.bk N.bk
  ct : NxOk K C S A H Z.ct N.ct
  rt : ∀ v d A' H' Δ', Ext A H A' H' → Cells K C S A' H' Δ' → Rep K C S A' H' v d → Z.rt d Δ' → N.rt v H'
def RefS (K : PySem.W.Frag) (C : CI) (ts : TS) (z : ZS) : Prop := ∀ (S A : List Addr) (σ : L2.St) (H : Hp) (Γ : Env) (Δ : Store) (Z : ZEnds) (N : Ends), Slots K C S A H σ Γ → Cells K C S A H Δ → z Z Γ Δ → EndsOk K C S A H Z N → ts N σ H
section
variable {K : PySem.W.Frag} {C : CI} {S A A' : List Addr} {H H' : Hp}
theorem NxOk.ext {Z : Env → Store → Prop} {N : L2.St → Hp → Prop} (h : NxOk K C S A H Z N) (e : Ext A H A' H') : NxOk K C S A' H' Z N :=
  fun σ' A2 H2 Γ' Δ' e2 s c z => h σ' A2 H2 Γ' Δ' (e.trans e2) s c z
theorem EndsOk.ext {Z : ZEnds} {N : Ends} (h : EndsOk K C S A H Z N) (e : Ext A H A' H') : EndsOk K C S A' H' Z N :=
  ⟨h.nx.ext e, h.bk.ext e, h.ct.ext e, fun v d A2 H2 Δ' e2 c r z => h.rt v d A2 H2 Δ' (e.trans e2) c r z⟩
end

/-! ### the judgements: a piece of syntax and its reading over data -/
structure EZ (C : CI) (X : Cx) (e : Expr) (z : ZE) : Prop where
  ex : ∃ te, PE X e te ∧ RefE X.K C te z
structure TZ (C : CI) (X : Cx) (e : Expr) (z : ZT) : Prop where
  ex : ∃ tt, PT X e tt ∧ RefT X.K C tt z
structure WZ (C : CI) (X : Cx) (e : Expr) (z : ZT) : Prop where
  ex : ∃ tt, PW X e tt ∧ RefT X.K C tt z
structure AZ (C : CI) (X : Cx) (es : List Expr) (z : ZA) : Prop where
  ex : ∃ ta, PA X es ta ∧ RefA X.K C ta z
structure SZ (C : CI) (X : Cx) (st : Stmt) (z : ZS) : Prop where
  ex : ∃ ts, PS X st ts ∧ RefS X.K C ts z
structure SZs (C : CI) (X : Cx) (st : List Stmt) (z : ZS) : Prop where
  ex : ∃ ts, PSs X st ts ∧ RefS X.K C ts z
theorem WZ.tz {C : CI} {X : Cx} {e : Expr} {z : ZT} (h : WZ C X e z) : TZ C X e z := by
  obtain ⟨t, h1, h2⟩ := h.ex
  exact ⟨t, h1.pt, h2⟩
end Z

/-! Z2: expressions over data. -/
namespace Z
open PySem L2

abbrev ZR1 := D → Store → (D → Store → Prop) → Prop
abbrev ZR2 := D → D → Store → (D → Store → Prop) → Prop
abbrev ZRC := List D → Store → (D → Store → Prop) → Prop
def Ref1 (K : PySem.W.Frag) (C : CI) (r : V → Hp → VK → Prop) (z : ZR1) : Prop := ∀ (S A : List Addr) (H : Hp) (Δ : Store) (x : V) (dx : D) (P : D → Store → Prop) (Q : VK), Cells K C S A H Δ → Rep K C S A H x dx → z dx Δ P →
  (∀ v d A' H' Δ', Ext A H A' H' → Cells K C S A' H' Δ' → Rep K C S A' H' v d → P d Δ' → Q v H') → r x H Q
def Ref2 (K : PySem.W.Frag) (C : CI) (r : R2) (z : ZR2) : Prop := ∀ (S A : List Addr) (H : Hp) (Δ : Store) (x y : V) (dx dy : D) (P : D → Store → Prop) (Q : VK), Cells K C S A H Δ → Rep K C S A H x dx → Rep K C S A H y dy → z dx dy Δ P →
  (∀ v d A' H' Δ', Ext A H A' H' → Cells K C S A' H' Δ' → Rep K C S A' H' v d → P d Δ' → Q v H') → r x y H Q
def RefC (K : PySem.W.Frag) (C : CI) (r : List V → Hp → VK → Prop) (z : ZRC) : Prop := ∀ (S A : List Addr) (H : Hp) (Δ : Store) (xs : List V) (ds : List D) (P : D → Store → Prop) (Q : VK), Cells K C S A H Δ → RepL K C S A H xs ds → z ds Δ P →
  (∀ v d A' H' Δ', Ext A H A' H' → Cells K C S A' H' Δ' → Rep K C S A' H' v d → P d Δ' → Q v H') → r xs H Q

/-! ### names, constants -/
def zVar (i : Nat) : ZE := fun Γ Δ P => ∃ d, Γ[i]? = some (some d) ∧ P d Δ
def zC (d : D) : ZE := fun _ Δ P => P d Δ
section
variable {C : CI} {X : Cx}
theorem ez_var (i : Nat) {x : Str} {pos : Pos} (hN : X.N[i]? = some x := by rfl) (hv : Vis X.env.scope x := by first | exact Or.inl rfl | exact Or.inr (Or.inl rfl) | exact Or.inr (Or.inr rfl)) (hd : (x == ("__debug__" : Str)) = false := by decide)
    (hcd : (x == ("__classdict__" : Str)) = false := by decide) : EZ C X (.Name x pos) (zVar i) := by
  refine ⟨tVar i, pe_var hN hv hd hcd, fun S A σ H Γ Δ P Q hs hc hz k => ?_⟩
  obtain ⟨d, e, p⟩ := hz
  obtain ⟨v, h1, h2⟩ := hs.at_ i d e
  exact ⟨v, h1, k v d A H Δ (Ext.refl _ _) hc h2 p⟩
theorem ref_c {K : PySem.W.Frag} {v : V} {d : D} (h : ∀ S A H, Rep K C S A H v d) : RefE K C (tC v) (zC d) := fun S A σ H Γ Δ P Q hs hc hz k => k v d A H Δ (Ext.refl _ _) hc (h S A H) hz
theorem ez_int {i j pos} : EZ C X (.Constant (.int i) j pos) (zC (.int i)) := ⟨_, pe_int, ref_c fun _ _ _ => .int i⟩
theorem ez_bl {b j pos} : EZ C X (.Constant (.bool b) j pos) (zC (.bl b)) := ⟨_, pe_bl, ref_c fun _ _ _ => .bl b⟩
theorem ez_non {j pos} : EZ C X (.Constant .none j pos) (zC .non) := ⟨_, pe_non, ref_c fun _ _ _ => .non⟩
theorem ez_str {x j pos} : EZ C X (.Constant (.str x) j pos) (zC (.str x)) := ⟨_, pe_str, ref_c fun _ _ _ => .str x⟩
/-- a module's constant, an int -/
theorem ez_gint {x : Str} {i : Int} {t : Tok} {pos : Pos} (hm : X.mg x = some (.int i t)) (hg : Gl X x := by rfl) (hd : (x == ("__debug__" : Str)) = false := by decide) : EZ C X (.Name x pos) (zC (.int i)) :=
  ⟨_, pe_glob (v := .int i) hg hm ⟨t, rfl⟩ hd, ref_c fun _ _ _ => .int i⟩
/-- a built-in type's name as a value -/
theorem ez_ty {x : Str} {n : String} {pos : Pos} (hm : X.mg x = none) (hv : bootBuiltins x = some (.type n)) (hg : Gl X x := by rfl) (hn : x ≠ "__name__" := by decide) (hd : (x == ("__debug__" : Str)) = false := by decide) : EZ C X (.Name x pos) (zC (.ty n)) :=
  ⟨_, pe_bltn (v := .ty n) hg hm hv rfl hn hd, ref_c fun _ _ _ => .ty n⟩

/-! ### operators -/
def zOp (r : ZR2) (za zb : ZE) : ZE := fun Γ Δ P => za Γ Δ fun x Δ1 => zb Γ Δ1 fun y Δ2 => r x y Δ2 P
def zUn (r : ZR1) (za : ZE) : ZE := fun Γ Δ P => za Γ Δ fun x Δ1 => r x Δ1 P
theorem ref_op {K : PySem.W.Frag} {r : R2} {z : ZR2} {ta tb : TE} {za zb : ZE} (hr : Ref2 K C r z) (ha : RefE K C ta za) (hb : RefE K C tb zb) : RefE K C (tOp r ta tb) (zOp z za zb) := fun S A σ H Γ Δ P Q hs hc hz k =>
  ha S A σ H Γ Δ _ _ hs hc hz fun x dx A1 H1 Δ1 e1 c1 r1 hz1 => hb S A1 σ H1 Γ Δ1 _ _ (hs.ext e1) c1 hz1 fun y dy A2 H2 Δ2 e2 c2 r2 hz2 =>
    hr S A2 H2 Δ2 x y dx dy P Q c2 (r1.ext e2) r2 hz2 fun v d A3 H3 Δ3 e3 c3 r3 p => k v d A3 H3 Δ3 ((e1.trans e2).trans e3) c3 r3 p
theorem ref_un {K : PySem.W.Frag} {r : V → Hp → VK → Prop} {z : ZR1} {ta : TE} {za : ZE} (hr : Ref1 K C r z) (ha : RefE K C ta za) : RefE K C (tUn r ta) (zUn z za) := fun S A σ H Γ Δ P Q hs hc hz k =>
  ha S A σ H Γ Δ _ _ hs hc hz fun x dx A1 H1 Δ1 e1 c1 r1 hz1 => hr S A1 H1 Δ1 x dx P Q c1 r1 hz1 fun v d A3 H3 Δ3 e3 c3 r3 p => k v d A3 H3 Δ3 (e1.trans e3) c3 r3 p
variable {a b c : Expr} {za zb zc : ZE} {pos : Pos}
/-- an operator's rule: what it does by values, and over data -/
structure OpZ (C : CI) (X : Cx) (f : Value → Value → Sem Value) (z : ZR2) : Prop where
  ex : ∃ r, OpR X f r ∧ Ref2 X.K C r z
theorem ez_op {op : Operator} {z : ZR2} (ho : OpZ C X (binaryOp op) z) (ha : EZ C X a za) (hb : EZ C X b zb) : EZ C X (.BinOp a op b pos) (zOp z za zb) := by
  obtain ⟨r, o1, o2⟩ := ho.ex
  obtain ⟨ta, a1, a2⟩ := ha.ex
  obtain ⟨tb, b1, b2⟩ := hb.ex
  exact ⟨_, pe_op o1 a1 b1, ref_op o2 a2 b2⟩
def zI0 (g : Int → Int → D) : ZR2 := fun x y Δ P => ∃ i j, x = .int i ∧ y = .int j ∧ P (g i j) Δ
def zI (Cd : Int → Int → Prop) (g : Int → Int → D) : ZR2 := fun x y Δ P => ∃ i j, x = .int i ∧ y = .int j ∧ Cd i j ∧ P (g i j) Δ
theorem ref_I0 {K : PySem.W.Frag} {g : Int → Int → V} {g' : Int → Int → D} (hg : ∀ i j S A H, Rep K C S A H (g i j) (g' i j)) : Ref2 K C (rI0 g) (zI0 g') := fun S A H Δ x y dx dy P Q hc rx ry hz k => by
  obtain ⟨i, j, rfl, rfl, p⟩ := hz
  cases rx
  cases ry
  exact ⟨i, j, rfl, rfl, k _ _ A H Δ (Ext.refl _ _) hc (hg i j S A H) p⟩
theorem ref_I {K : PySem.W.Frag} {Cd : Int → Int → Prop} {g : Int → Int → V} {g' : Int → Int → D} (hg : ∀ i j S A H, Rep K C S A H (g i j) (g' i j)) : Ref2 K C (rI Cd g) (zI Cd g') := fun S A H Δ x y dx dy P Q hc rx ry hz k => by
  obtain ⟨i, j, rfl, rfl, q, p⟩ := hz
  cases rx
  cases ry
  exact ⟨i, j, rfl, rfl, q, k _ _ A H Δ (Ext.refl _ _) hc (hg i j S A H) p⟩
theorem oz_add : OpZ C X (binaryOp .Add) (zI0 fun i j => .int (i + j)) := ⟨_, op_add, ref_I0 fun _ _ _ _ _ => .int _⟩
theorem oz_sub : OpZ C X (binaryOp .Sub) (zI0 fun i j => .int (i - j)) := ⟨_, op_sub, ref_I0 fun _ _ _ _ _ => .int _⟩
/-- a product that the machine makes -/
def MulOk (i j : Int) : Prop := IntMulOk i j
theorem op_mulA : OpR X (binaryOp .Mult) (rI IntMulOk fun i j => .int (i * j)) := opI fun _ _ _ _ _ _ _ hc q => PyProof.Rows.mul_int q hc
theorem oz_mul : OpZ C X (binaryOp .Mult) (zI MulOk fun i j => .int (i * j)) := ⟨_, op_mulA, ref_I fun _ _ _ _ _ => .int _⟩
theorem oz_fdiv : OpZ C X (binaryOp .FloorDiv) (zI CDivW fun i j => .int (i / j)) := ⟨_, op_fdivW, ref_I fun _ _ _ _ _ => .int _⟩
theorem oz_mod : OpZ C X (binaryOp .Mod) (zI (fun _ j => 0 < j) fun i j => .int (i % j)) := ⟨_, op_mod, ref_I fun _ _ _ _ _ => .int _⟩
theorem oz_pow : OpZ C X (binaryOp .Pow) (zI CPow fun i j => .int (i ^ j.toNat)) := ⟨_, op_pow, ref_I fun _ _ _ _ _ => .int _⟩
/-- products by sizes -/
theorem MulOk.l {i j : Int} (h1 : -(2 ^ 64) < i) (h2 : i < 2 ^ 64) : MulOk i j := CMul.ok (.inl ⟨h1, h2⟩)
theorem MulOk.r {i j : Int} (h1 : -(2 ^ 64) < j) (h2 : j < 2 ^ 64) : MulOk i j := CMul.ok (.inr ⟨h1, h2⟩)
theorem MulOk.w {i j : Int} (a b : Nat) (ha : i.natAbs < 2 ^ a) (hb : j.natAbs < 2 ^ b) (h0 : 0 < a := by decide) (h1 : 0 < b := by decide) (h : a + b ≤ 1000000 := by decide) : MulOk i j := (wide_mul ha hb h0 h1 h).ok
def zNeg : ZR1 := fun x Δ P => ∃ i, x = .int i ∧ P (.int (-i)) Δ
theorem ez_neg (ha : EZ C X a za) : EZ C X (.UnaryOp .USub a pos) (zUn zNeg za) := by
  obtain ⟨ta, a1, a2⟩ := ha.ex
  refine ⟨_, pe_un un_neg a1, ref_un (fun S A H Δ x dx P Q hc rx hz k => ?_) a2⟩
  obtain ⟨i, rfl, p⟩ := hz
  cases rx
  exact ⟨i, rfl, k _ _ A H Δ (Ext.refl _ _) hc (.int _) p⟩

/-! ### comparisons -/
theorem oz_lt : OpZ C X (compareOp .Lt) (zI0 fun i j => .bl (decide (i < j))) := ⟨_, op_lt, ref_I0 fun _ _ _ _ _ => .bl _⟩
theorem oz_le : OpZ C X (compareOp .LtE) (zI0 fun i j => .bl (decide (i ≤ j))) := ⟨_, op_le, ref_I0 fun _ _ _ _ _ => .bl _⟩
theorem oz_gt : OpZ C X (compareOp .Gt) (zI0 fun i j => .bl (decide (j < i))) := ⟨_, op_gt, ref_I0 fun _ _ _ _ _ => .bl _⟩
theorem oz_ge : OpZ C X (compareOp .GtE) (zI0 fun i j => .bl (decide (j ≤ i))) := ⟨_, op_ge, ref_I0 fun _ _ _ _ _ => .bl _⟩
def isNon : D → Bool
  | .non => true
  | _ => false
def zIsN : ZR2 := fun x y Δ P => y = .non ∧ P (.bl (isNon x)) Δ
def zNotN : ZR2 := fun x y Δ P => y = .non ∧ P (.bl (!isNon x)) Δ
theorem Rep.isNon {K : PySem.W.Frag} {S A : List Addr} {H : Hp} {x : V} {d : D} (r : Rep K C S A H x d) : decide (x = .non) = isNon d := by
  cases r <;> first | rfl | simp [Z.isNon]
theorem oz_isN : OpZ C X (compareOp .Is) zIsN := ⟨_, op_isN, fun S A H Δ x y dx dy P Q hc rx ry hz k => by
  obtain ⟨rfl, p⟩ := hz
  cases ry
  refine ⟨rfl, k _ _ A H Δ (Ext.refl _ _) hc ?_ p⟩
  rw [rx.isNon]
  exact .bl _⟩
theorem oz_notN : OpZ C X (compareOp .IsNot) zNotN := ⟨_, op_notN, fun S A H Δ x y dx dy P Q hc rx ry hz k => by
  obtain ⟨rfl, p⟩ := hz
  cases ry
  refine ⟨rfl, k _ _ A H Δ (Ext.refl _ _) hc ?_ p⟩
  rw [rx.isNon]
  exact .bl _⟩

/-! ### plain data: == -/
mutual
def pd : D → PyData
  | .non => .none
  | .bl b => .bool b
  | .int i => .int i
  | .str x => .str x
  | .tup ds => .tuple (pds ds)
  | .lst ds => .list (pds ds)
  | _ => .none
def pds : List D → List PyData
  | [] => []
  | d :: ds => pd d :: pds ds
end
mutual
def plainD : D → Bool
  | .non | .bl _ | .int _ | .str _ => true
  | .tup ds | .lst ds => plainDs ds
  | _ => false
def plainDs : List D → Bool
  | [] => true
  | d :: ds => plainD d && plainDs ds
end
section
variable {K : PySem.W.Frag} {S A : List Addr} {H : Hp}
mutual
theorem Rep.dp : ∀ (d : D) {v : V}, plainD d = true → Rep K C S A H v d → Dp K H v (pd d)
  | .non, _, _, r => by cases r; exact .non
  | .bl b, _, _, r => by cases r; exact .bl b
  | .int i, _, _, r => by cases r; exact .int i
  | .str x, _, _, r => by cases r; exact .str x
  | .tup ds, _, h, r => by cases r with | tup h1 _ _ r => exact .tup (SqT.of h1) (RepL.dp ds h r)
  | .lst ds, _, h, r => by cases r with | lst h1 _ _ r => exact .lst (SqL.of h1) (RepL.dp ds h r)
  | .ty _, _, h, _ => by cases h
  | .ins _ _, _, h, _ => by cases h
  | .cell _, _, h, _ => by cases h
  | .scr _, _, h, _ => by cases h
  | .cls _, _, h, _ => by cases h
  | .dct _ _, _, h, _ => by cases h
theorem RepL.dp : ∀ (ds : List D) {vs : List V}, plainDs ds = true → RepL K C S A H vs ds → DpAll K H vs (pds ds)
  | [], _, _, r => by cases r; exact .nil
  | d :: ds, _, h, r => by
    cases r with
    | cons h1 r =>
      have h' : (plainD d && plainDs ds) = true := h
      rw [Bool.and_eq_true] at h'
      exact .cons (Rep.dp d h'.1 h1) (RepL.dp ds h'.2 r)
end
end
/-- what a value is at the top: a cell's content -/
def rd (Δ : Store) : D → D
  | .cell n => match Δ[n]? with
    | some (.lst ds) => .lst ds
    | _ => .cell n
  | .scr ns => .lst (ns.map D.int)
  | d => d
def shp (d : D) : Bool := plainD d && SeqAt.shaped (pd d)
def eqD (x y : D) : Bool := PyData.eqv (pd x) (pd y)
def zEq : ZR2 := fun x y Δ P => shp (rd Δ x) = true ∧ shp (rd Δ y) = true ∧ P (.bl (eqD (rd Δ x) (rd Δ y))) Δ
def zNe : ZR2 := fun x y Δ P => shp (rd Δ x) = true ∧ shp (rd Δ y) = true ∧ P (.bl (!eqD (rd Δ x) (rd Δ y))) Δ
theorem plain_ints : ∀ ns : List Int, plainDs (ns.map D.int) = true
  | [] => rfl
  | n :: ns => by
    show (plainD (.int n) && plainDs (ns.map D.int)) = true
    rw [plain_ints ns]
    rfl
theorem pds_ints {K : PySem.W.Frag} {H : Hp} : ∀ ns : List Int, DpAll K H (ns.map V.int) (pds (ns.map D.int))
  | [] => .nil
  | n :: ns => .cons (.int n) (pds_ints ns)
theorem dp_rd {K : PySem.W.Frag} {S A : List Addr} {H : Hp} {Δ : Store} {x : V} {d : D} (hc : Cells K C S A H Δ) (r : Rep K C S A H x d) (h : plainD (rd Δ d) = true) : Dp K H x (pd (rd Δ d)) := by
  cases r with
  | cell e =>
    rename_i a n
    unfold rd at h ⊢
    cases q : Δ[n]? with
    | none =>
      simp only [q] at h
      cases h
    | some o =>
      cases o with
      | ins _ _ => simp only [q] at h; cases h
      | dct _ _ => simp only [q] at h; cases h
      | lst ds =>
        simp only [q] at h ⊢
        obtain ⟨xs, h1, h2⟩ := hc.at_ n a _ e q
        exact .lst (SqL.of h1) (RepL.dp ds h h2)
  | scr e =>
    rename_i a ns
    refine .lst ?_ (pds_ints ns)
    rcases e with ⟨⟨o, e⟩, _⟩ | e
    · exact .inl (.inr ⟨o, e⟩)
    · exact .inr e
  | non => exact .non
  | bl b => exact .bl b
  | int i => exact .int i
  | str x => exact .str x
  | ty n => cases h
  | cls n => cases h
  | tup h1 h2 h3 r => exact Rep.dp _ h (.tup h1 h2 h3 r)
  | lst h1 h2 h3 r => exact Rep.dp _ h (.lst h1 h2 h3 r)
  | ins _ _ _ _ _ => cases h
  | dct _ _ _ _ _ => cases h
theorem oz_eq (hu : X.A.units + 64 < cLine) : OpZ C X (compareOp .Eq) zEq := ⟨_, op_eqD hu, fun S A H Δ x y dx dy P Q hc rx ry hz k => by
  obtain ⟨h1, h2, p⟩ := hz
  have g1 := Bool.and_eq_true_iff.mp h1
  have g2 := Bool.and_eq_true_iff.mp h2
  exact ⟨_, _, dp_rd hc rx g1.1, dp_rd hc ry g2.1, g1.2, g2.2, k _ _ A H Δ (Ext.refl _ _) hc (.bl _) p⟩⟩
theorem oz_ne (hu : X.A.units + 64 < cLine) : OpZ C X (compareOp .NotEq) zNe := ⟨_, op_neD hu, fun S A H Δ x y dx dy P Q hc rx ry hz k => by
  obtain ⟨h1, h2, p⟩ := hz
  have g1 := Bool.and_eq_true_iff.mp h1
  have g2 := Bool.and_eq_true_iff.mp h2
  exact ⟨_, _, dp_rd hc rx g1.1, dp_rd hc ry g2.1, g1.2, g2.2, k _ _ A H Δ (Ext.refl _ _) hc (.bl _) p⟩⟩

/-! ### in, not in: flat items -/
def toV : D → V
  | .bl b => .bl b
  | .int i => .int i
  | .str x => .str x
  | _ => .non
def flatD : D → Bool
  | .non | .bl _ | .int _ | .str _ => true
  | _ => false
/-- the items of a list or a tuple -/
def seqD (Δ : Store) : D → Option (List D)
  | .tup ds => some ds
  | .lst ds => some ds
  | .cell n => match Δ[n]? with
    | some (.lst ds) => some ds
    | _ => none
  | .scr ns => some (ns.map D.int)
  | _ => none
theorem Rep.toV {K : PySem.W.Frag} {S A : List Addr} {H : Hp} {x : V} {d : D} (r : Rep K C S A H x d) (h : flatD d = true) : x = Z.toV d ∧ flatV x = true := by
  cases r <;> first | exact ⟨rfl, rfl⟩ | cases h
theorem RepL.toV {K : PySem.W.Frag} {S A : List Addr} {H : Hp} : ∀ {xs : List V} {ds : List D}, RepL K C S A H xs ds → ds.all flatD = true → xs = ds.map Z.toV ∧ xs.all flatV = true
  | _, _, .nil, _ => ⟨rfl, rfl⟩
  | _, _, .cons h r, q => by
    rw [List.all_cons, Bool.and_eq_true] at q
    obtain ⟨h1, h2⟩ := Rep.toV h q.1
    obtain ⟨h3, h4⟩ := RepL.toV r q.2
    exact ⟨by rw [List.map_cons, ← h1, ← h3], by rw [List.all_cons, h2, h4] <;> rfl⟩
theorem repL_ints {K : PySem.W.Frag} {S A : List Addr} {H : Hp} : ∀ ns : List Int, RepL K C S A H (ns.map V.int) (ns.map D.int)
  | [] => .nil
  | n :: ns => .cons (.int n) (repL_ints ns)
/-- a sequence by its items, to be read -/
theorem Rep.seq {K : PySem.W.Frag} {S A : List Addr} {H : Hp} {Δ : Store} {x : V} {d : D} {ds : List D} (hc : Cells K C S A H Δ) (r : Rep K C S A H x d) (h : seqD Δ d = some ds) :
    ∃ p xs, x = .ref p ∧ (SqL K H p xs ∨ SqT K H p xs) ∧ RepL K C S A H xs ds := by
  cases r with
  | tup h1 h2 h3 r => cases h; exact ⟨_, _, rfl, .inr (SqT.of h1), r⟩
  | lst h1 h2 h3 r => cases h; exact ⟨_, _, rfl, .inl (SqL.of h1), r⟩
  | cell e =>
    rename_i a n
    unfold seqD at h
    cases q : Δ[n]? with
    | none => simp only [q] at h; cases h
    | some o =>
      cases o with
      | ins _ _ => simp only [q] at h; cases h
      | dct _ _ => simp only [q] at h; cases h
      | lst es =>
        simp only [q] at h
        cases h
        obtain ⟨xs, h1, h2⟩ := hc.at_ n a _ e q
        exact ⟨a, xs, rfl, .inl (SqL.of h1), h2⟩
  | scr e =>
    rename_i a ns
    cases h
    refine ⟨a, _, rfl, .inl ?_, repL_ints ns⟩
    rcases e with ⟨⟨o, e⟩, _⟩ | e
    · exact .inl (.inr ⟨o, e⟩)
    · exact .inr e
  | _ => cases h
def inD (x : D) (ds : List D) : Bool := inV (toV x) (ds.map toV)
def zIn : ZR2 := fun x y Δ P => ∃ ds, seqD Δ y = some ds ∧ flatD x = true ∧ ds.all flatD = true ∧ P (.bl (inD x ds)) Δ
def zNotIn : ZR2 := fun x y Δ P => ∃ ds, seqD Δ y = some ds ∧ flatD x = true ∧ ds.all flatD = true ∧ P (.bl (!inD x ds)) Δ
theorem oz_in : OpZ C X (compareOp .In) zIn := ⟨_, op_in_seq, fun S A H Δ x y dx dy P Q hc rx ry hz k => by
  obtain ⟨ds, e, f1, f2, p⟩ := hz
  obtain ⟨pa, xs, rfl, hq, r⟩ := Rep.seq hc ry e
  obtain ⟨g1, g2⟩ := Rep.toV rx f1
  obtain ⟨g3, g4⟩ := RepL.toV r f2
  refine ⟨pa, xs, rfl, hq, g2, g4, k _ _ A H Δ (Ext.refl _ _) hc ?_ p⟩
  rw [g1, g3]
  exact .bl _⟩
theorem oz_notIn : OpZ C X (compareOp .NotIn) zNotIn := ⟨_, op_notIn_seq, fun S A H Δ x y dx dy P Q hc rx ry hz k => by
  obtain ⟨ds, e, f1, f2, p⟩ := hz
  obtain ⟨pa, xs, rfl, hq, r⟩ := Rep.seq hc ry e
  obtain ⟨g1, g2⟩ := Rep.toV rx f1
  obtain ⟨g3, g4⟩ := RepL.toV r f2
  refine ⟨pa, xs, rfl, hq, g2, g4, k _ _ A H Δ (Ext.refl _ _) hc ?_ p⟩
  rw [g1, g3]
  exact .bl _⟩

/-! ### comparisons as values and tests; chains -/
theorem ez_cmp {op : CmpOp} {z : ZR2} (ho : OpZ C X (compareOp op) z) (ha : EZ C X a za) (hb : EZ C X b zb) (hm : behindInMarks op b = false := by first | exact nomark _ | rfl | with_unfolding_all rfl) : EZ C X (.Compare a [op] [b] pos) (zOp z za zb) := by
  obtain ⟨r, o1, o2⟩ := ho.ex
  obtain ⟨ta, a1, a2⟩ := ha.ex
  obtain ⟨tb, b1, b2⟩ := hb.ex
  exact ⟨_, pe_cmpR o1 a1 b1 hm, ref_op o2 a2 b2⟩
def zTest (z : ZE) : ZT := fun Γ Δ P => z Γ Δ fun d Δ1 => ∃ k, d = .bl k ∧ P k Δ1
theorem ref_test {K : PySem.W.Frag} {ta : TE} {za : ZE} (ha : RefE K C ta za) : RefT K C (tTest ta) (zTest za) := fun S A σ H Γ Δ P Q hs hc hz k =>
  ha S A σ H Γ Δ _ _ hs hc hz fun v d A1 H1 Δ1 e1 c1 r1 hz1 => by
    obtain ⟨b, rfl, p⟩ := hz1
    cases r1
    exact ⟨b, rfl, k b A1 H1 Δ1 e1 c1 p⟩
theorem tz_cmp {op : CmpOp} {z : ZR2} (ho : OpZ C X (compareOp op) z) (ha : EZ C X a za) (hb : EZ C X b zb) (hm : behindInMarks op b = false := by first | exact nomark _ | rfl | with_unfolding_all rfl) : TZ C X (.Compare a [op] [b] pos) (zTest (zOp z za zb)) := by
  obtain ⟨r, o1, o2⟩ := ho.ex
  obtain ⟨ta, a1, a2⟩ := ha.ex
  obtain ⟨tb, b1, b2⟩ := hb.ex
  exact ⟨_, pt_cmpR o1 a1 b1 hm, ref_test (ref_op o2 a2 b2)⟩
/-- an expression that gives a bool, as a test -/
theorem tz_val {e : Expr} {z : ZE} (h : EZ C X e z) (he : ∀ whole, isTrue e X.env whole = (do let v ← whole; standAt e.pos; holding [v] (truthy v)) := by intro _; rfl) : TZ C X e (zTest z) := by
  obtain ⟨te, e1, e2⟩ := h.ex
  exact ⟨_, pt_val e1 he, ref_test e2⟩
def zChain (r r' : ZR2) (za zb zc : ZE) : ZE := fun Γ Δ P => za Γ Δ fun x Δ1 => zb Γ Δ1 fun y Δ2 => r x y Δ2 fun z Δ3 => ∃ k, z = .bl k ∧ (k = true → zc Γ Δ3 fun w Δ4 => r' y w Δ4 P) ∧ (k = false → P (.bl false) Δ3)
theorem ref_chain {K : PySem.W.Frag} {r r' : R2} {z z' : ZR2} {ta tb tc : TE} (hr : Ref2 K C r z) (hr' : Ref2 K C r' z') (ha : RefE K C ta za) (hb : RefE K C tb zb) (hc' : RefE K C tc zc) : RefE K C (tChain r r' ta tb tc) (zChain z z' za zb zc) := fun S A σ H Γ Δ P Q hs hc hz k =>
  ha S A σ H Γ Δ _ _ hs hc hz fun x dx A1 H1 Δ1 e1 c1 r1 hz1 => hb S A1 σ H1 Γ Δ1 _ _ (hs.ext e1) c1 hz1 fun y dy A2 H2 Δ2 e2 c2 r2 hz2 =>
    hr S A2 H2 Δ2 x y dx dy _ _ c2 (r1.ext e2) r2 hz2 fun v d A3 H3 Δ3 e3 c3 r3 p => by
      obtain ⟨b, rfl, p1, p2⟩ := p
      cases r3
      refine ⟨b, rfl, ?_⟩
      have e13 := (e1.trans e2).trans e3
      cases b with
      | false => exact iteF (k _ _ A3 H3 Δ3 e13 c3 (.bl _) (p2 rfl))
      | true => exact iteT (hc' S A3 σ H3 Γ Δ3 _ _ (hs.ext e13) c3 (p1 rfl) fun w dw A4 H4 Δ4 e4 c4 r4 p4 => hr' S A4 H4 Δ4 y w dy dw P Q c4 ((r2.ext e3).ext e4) r4 p4 fun v d A5 H5 Δ5 e5 c5 r5 p5 => k v d A5 H5 Δ5 ((e13.trans e4).trans e5) c5 r5 p5)
theorem ez_chain {op op' : CmpOp} {z z' : ZR2} (ho : OpZ C X (compareOp op) z) (ho' : OpZ C X (compareOp op') z') (ha : EZ C X a za) (hb : EZ C X b zb) (hc : EZ C X c zc) (hm : lastMarks [op, op'] [b, c] = false := by with_unfolding_all rfl) :
    EZ C X (.Compare a [op, op'] [b, c] pos) (zChain z z' za zb zc) := by
  obtain ⟨r, o1, o2⟩ := ho.ex
  obtain ⟨r', o1', o2'⟩ := ho'.ex
  obtain ⟨ta, a1, a2⟩ := ha.ex
  obtain ⟨tb, b1, b2⟩ := hb.ex
  obtain ⟨tc, c1, c2⟩ := hc.ex
  exact ⟨_, pe_chain o1 o1' a1 b1 c1 hm, ref_chain o2 o2' a2 b2 c2⟩
theorem tz_chain {op op' : CmpOp} {z z' : ZR2} (ho : OpZ C X (compareOp op) z) (ho' : OpZ C X (compareOp op') z') (ha : EZ C X a za) (hb : EZ C X b zb) (hc : EZ C X c zc) (hm : lastMarks [op, op'] [b, c] = false := by with_unfolding_all rfl) :
    TZ C X (.Compare a [op, op'] [b, c] pos) (zTest (zChain z z' za zb zc)) := by
  obtain ⟨r, o1, o2⟩ := ho.ex
  obtain ⟨r', o1', o2'⟩ := ho'.ex
  obtain ⟨ta, a1, a2⟩ := ha.ex
  obtain ⟨tb, b1, b2⟩ := hb.ex
  obtain ⟨tc, c1, c2⟩ := hc.ex
  exact ⟨_, pt_chain o1 o1' a1 b1 c1 hm, ref_test (ref_chain o2 o2' a2 b2 c2)⟩

/-! ### and, or, not, if -/
variable {tA tB' : ZT} {rest : List Expr}
def zAnd (t u : ZT) : ZT := fun Γ Δ P => t Γ Δ fun c Δ1 => (c = true → u Γ Δ1 P) ∧ (c = false → P false Δ1)
def zOr (t u : ZT) : ZT := fun Γ Δ P => t Γ Δ fun c Δ1 => (c = true → P true Δ1) ∧ (c = false → u Γ Δ1 P)
def zNot (t : ZT) : ZT := fun Γ Δ P => t Γ Δ fun c Δ1 => P (!c) Δ1
theorem wz_and1 (ha : TZ C X a tA) : WZ C X (.BoolOp .And [a] pos) tA := by
  obtain ⟨t, h1, h2⟩ := ha.ex
  exact ⟨t, pw_and1 h1, h2⟩
theorem wz_or1 (ha : TZ C X a tA) : WZ C X (.BoolOp .Or [a] pos) tA := by
  obtain ⟨t, h1, h2⟩ := ha.ex
  exact ⟨t, pw_or1 h1, h2⟩
theorem wz_and (ha : TZ C X a tA) (hb : WZ C X (.BoolOp .And (b :: rest) pos) tB') : WZ C X (.BoolOp .And (a :: b :: rest) pos) (zAnd tA tB') := by
  obtain ⟨t, a1, a2⟩ := ha.ex
  obtain ⟨u, b1, b2⟩ := hb.ex
  refine ⟨_, pw_and a1 b1, fun S A σ H Γ Δ P Q hs hc hz k => a2 S A σ H Γ Δ _ _ hs hc hz fun c A1 H1 Δ1 e1 c1 hz1 => ?_⟩
  cases c with
  | true => exact iteT (b2 S A1 σ H1 Γ Δ1 P Q (hs.ext e1) c1 (hz1.1 rfl) fun d A2 H2 Δ2 e2 c2 p => k d A2 H2 Δ2 (e1.trans e2) c2 p)
  | false => exact iteF (k _ A1 H1 Δ1 e1 c1 (hz1.2 rfl))
theorem wz_or (ha : TZ C X a tA) (hb : WZ C X (.BoolOp .Or (b :: rest) pos) tB') : WZ C X (.BoolOp .Or (a :: b :: rest) pos) (zOr tA tB') := by
  obtain ⟨t, a1, a2⟩ := ha.ex
  obtain ⟨u, b1, b2⟩ := hb.ex
  refine ⟨_, pw_or a1 b1, fun S A σ H Γ Δ P Q hs hc hz k => a2 S A σ H Γ Δ _ _ hs hc hz fun c A1 H1 Δ1 e1 c1 hz1 => ?_⟩
  cases c with
  | true => exact iteT (k _ A1 H1 Δ1 e1 c1 (hz1.1 rfl))
  | false => exact iteF (b2 S A1 σ H1 Γ Δ1 P Q (hs.ext e1) c1 (hz1.2 rfl) fun d A2 H2 Δ2 e2 c2 p => k d A2 H2 Δ2 (e1.trans e2) c2 p)
theorem tz_not (ha : TZ C X a tA) : TZ C X (.UnaryOp .Not a pos) (zNot tA) := by
  obtain ⟨t, a1, a2⟩ := ha.ex
  exact ⟨_, pt_not a1, fun S A σ H Γ Δ P Q hs hc hz k => a2 S A σ H Γ Δ _ _ hs hc hz fun c A1 H1 Δ1 e1 c1 hz1 => k _ A1 H1 Δ1 e1 c1 hz1⟩
/-- values -/
def zAndV (za zb : ZE) : ZE := fun Γ Δ P => za Γ Δ fun x Δ1 => ∃ c, x = .bl c ∧ (c = true → zb Γ Δ1 P) ∧ (c = false → P (.bl false) Δ1)
def zOrV (za zb : ZE) : ZE := fun Γ Δ P => za Γ Δ fun x Δ1 => ∃ c, x = .bl c ∧ (c = true → P (.bl true) Δ1) ∧ (c = false → zb Γ Δ1 P)
def zNotV (za : ZE) : ZE := fun Γ Δ P => za Γ Δ fun x Δ1 => ∃ c, x = .bl c ∧ P (.bl (!c)) Δ1
theorem ez_one {op} {z : ZE} (h : EZ C X a z) : EZ C X (.BoolOp op [a] pos) z := by
  obtain ⟨t, h1, h2⟩ := h.ex
  exact ⟨t, pe_one h1, h2⟩
theorem ez_and (ha : EZ C X a za) (hb : EZ C X (.BoolOp .And (b :: rest) pos) zb) : EZ C X (.BoolOp .And (a :: b :: rest) pos) (zAndV za zb) := by
  obtain ⟨t, a1, a2⟩ := ha.ex
  obtain ⟨u, b1, b2⟩ := hb.ex
  refine ⟨_, pe_and a1 b1, fun S A σ H Γ Δ P Q hs hc hz k => a2 S A σ H Γ Δ _ _ hs hc hz fun x dx A1 H1 Δ1 e1 c1 r1 hz1 => ?_⟩
  obtain ⟨c, rfl, p1, p2⟩ := hz1
  cases r1
  refine ⟨c, rfl, ?_⟩
  cases c with
  | true => exact iteT (b2 S A1 σ H1 Γ Δ1 P Q (hs.ext e1) c1 (p1 rfl) fun v d A2 H2 Δ2 e2 c2 r2 p => k v d A2 H2 Δ2 (e1.trans e2) c2 r2 p)
  | false => exact iteF (k _ _ A1 H1 Δ1 e1 c1 (.bl _) (p2 rfl))
theorem ez_or (ha : EZ C X a za) (hb : EZ C X (.BoolOp .Or (b :: rest) pos) zb) : EZ C X (.BoolOp .Or (a :: b :: rest) pos) (zOrV za zb) := by
  obtain ⟨t, a1, a2⟩ := ha.ex
  obtain ⟨u, b1, b2⟩ := hb.ex
  refine ⟨_, pe_or a1 b1, fun S A σ H Γ Δ P Q hs hc hz k => a2 S A σ H Γ Δ _ _ hs hc hz fun x dx A1 H1 Δ1 e1 c1 r1 hz1 => ?_⟩
  obtain ⟨c, rfl, p1, p2⟩ := hz1
  cases r1
  refine ⟨c, rfl, ?_⟩
  cases c with
  | false => exact iteF (b2 S A1 σ H1 Γ Δ1 P Q (hs.ext e1) c1 (p2 rfl) fun v d A2 H2 Δ2 e2 c2 r2 p => k v d A2 H2 Δ2 (e1.trans e2) c2 r2 p)
  | true => exact iteT (k _ _ A1 H1 Δ1 e1 c1 (.bl _) (p1 rfl))
theorem ez_not (ha : EZ C X a za) : EZ C X (.UnaryOp .Not a pos) (zNotV za) := by
  obtain ⟨t, a1, a2⟩ := ha.ex
  refine ⟨_, pe_not a1, fun S A σ H Γ Δ P Q hs hc hz k => a2 S A σ H Γ Δ _ _ hs hc hz fun x dx A1 H1 Δ1 e1 c1 r1 hz1 => ?_⟩
  obtain ⟨c, rfl, p⟩ := hz1
  cases r1
  exact ⟨c, rfl, k _ _ A1 H1 Δ1 e1 c1 (.bl _) p⟩
def zIf (t : ZT) (za zb : ZE) : ZE := fun Γ Δ P => t Γ Δ fun c Δ1 => (c = true → za Γ Δ1 P) ∧ (c = false → zb Γ Δ1 P)
theorem ez_if {c : Expr} (hc : TZ C X c tA) (ha : EZ C X a za) (hb : EZ C X b zb) : EZ C X (.IfExp c a b pos) (zIf tA za zb) := by
  obtain ⟨t, t1, t2⟩ := hc.ex
  obtain ⟨ta, a1, a2⟩ := ha.ex
  obtain ⟨tb, b1, b2⟩ := hb.ex
  refine ⟨_, pe_ifExp t1 a1 b1, fun S A σ H Γ Δ P Q hs hc hz k => t2 S A σ H Γ Δ _ _ hs hc hz fun d A1 H1 Δ1 e1 c1 hz1 => ?_⟩
  cases d with
  | true => exact iteT (a2 S A1 σ H1 Γ Δ1 P Q (hs.ext e1) c1 (hz1.1 rfl) fun v d A2 H2 Δ2 e2 c2 r2 p => k v d A2 H2 Δ2 (e1.trans e2) c2 r2 p)
  | false => exact iteF (b2 S A1 σ H1 Γ Δ1 P Q (hs.ext e1) c1 (hz1.2 rfl) fun v d A2 H2 Δ2 e2 c2 r2 p => k v d A2 H2 Δ2 (e1.trans e2) c2 r2 p)

/-! ### argument lists, displays -/
variable {e : Expr} {es : List Expr} {ze : ZE} {zs : ZA}
def zNil : ZA := fun _ Δ P => P [] Δ
def zCons (z : ZE) (zs : ZA) : ZA := fun Γ Δ P => z Γ Δ fun d Δ1 => zs Γ Δ1 fun ds Δ2 => P (d :: ds) Δ2
theorem az_nil : AZ C X [] zNil := ⟨_, pa_nil, fun S A σ H Γ Δ P Q hs hc hz k => k [] [] A H Δ (Ext.refl _ _) hc .nil hz⟩
theorem az_cons (ha : EZ C X e ze) (hr : AZ C X es zs) (hst : starEach (e :: es) X.env = (false, eval e X.env) :: starEach es X.env := by rfl) : AZ C X (e :: es) (zCons ze zs) := by
  obtain ⟨t, a1, a2⟩ := ha.ex
  obtain ⟨u, b1, b2⟩ := hr.ex
  exact ⟨_, pa_cons a1 b1 hst, fun S A σ H Γ Δ P Q hs hc hz k => a2 S A σ H Γ Δ _ _ hs hc hz fun x dx A1 H1 Δ1 e1 c1 r1 hz1 =>
    b2 S A1 σ H1 Γ Δ1 _ _ (hs.ext e1) c1 hz1 fun vs ds A2 H2 Δ2 e2 c2 r2 p => k _ _ A2 H2 Δ2 (e1.trans e2) c2 (.cons (r1.ext e2) r2) p⟩
def zTup (zs : ZA) : ZE := fun Γ Δ P => zs Γ Δ fun ds Δ1 => ds.length ≤ 100000 ∧ P (.tup ds) Δ1
def zLst (zs : ZA) : ZE := fun Γ Δ P => zs Γ Δ fun ds Δ1 => ds.length ≤ 100000 ∧ P (.lst ds) Δ1
/-- a display that is changed later -/
def zLstC (zs : ZA) : ZE := fun Γ Δ P => zs Γ Δ fun ds Δ1 => ds.length ≤ 100000 ∧ P (.cell Δ1.length) (Δ1 ++ [.lst ds])
theorem sz100 {n : Nat} (h : n ≤ 100000) : n ≤ sizeLine := Nat.le_trans h (by decide)
section
variable {K : PySem.W.Frag} {S A : List Addr} {H : Hp} {Δ : Store}
theorem Cells.new (hc : Cells K C S A H Δ) {p : Addr} {o : HO} (h : H p = none) : Cells K C S A (upd H p o) Δ := hc.kept fun a u e => by rw [upd_ne (ne_of_none e h)]; exact e
theorem Cells.fresh (hc : Cells K C S A H Δ) {p : Addr} (h : H p = none) : p ∉ A := fun hp => by
  obtain ⟨n, hn⟩ := List.mem_iff_getElem?.mp hp
  have hl : n < Δ.length := by rw [← hc.len]; exact (List.getElem?_eq_some_iff.mp hn).1
  exact (hc.at_ n p _ hn (List.getElem?_eq_getElem hl)).trk h
theorem Cells.aside (hc : Cells K C S A H Δ) {p : Addr} (h : H p = none) : p ∉ S := fun hp => hc.as p hp h
end
theorem ez_tup {x1} (h : AZ C X es zs) : EZ C X (.Tuple es x1 pos) (zTup zs) := by
  obtain ⟨t, h1, h2⟩ := h.ex
  refine ⟨_, pe_tup h1, fun S A σ H Γ Δ P Q hs hc hz k => h2 S A σ H Γ Δ _ _ hs hc hz fun vs ds A1 H1 Δ1 e1 c1 r1 hz1 => ?_⟩
  refine ⟨sz100 (by rw [r1.length]; exact hz1.1), fun p hp => ?_⟩
  exact k _ _ A1 _ Δ1 (e1.trans (Ext.new hp)) (c1.new hp) (.tup upd_same (c1.fresh hp) (c1.aside hp) (r1.ext (Ext.new hp))) hz1.2
theorem ez_lst (h : AZ C X es zs) : EZ C X (.List es pos) (zLst zs) := by
  obtain ⟨t, h1, h2⟩ := h.ex
  refine ⟨_, pe_lst h1, fun S A σ H Γ Δ P Q hs hc hz k => h2 S A σ H Γ Δ _ _ hs hc hz fun vs ds A1 H1 Δ1 e1 c1 r1 hz1 => ?_⟩
  refine ⟨sz100 (by rw [r1.length]; exact hz1.1), fun p hp => ?_⟩
  exact k _ _ A1 _ Δ1 (e1.trans (Ext.new hp)) (c1.new hp) (.lst upd_same (c1.fresh hp) (c1.aside hp) (r1.ext (Ext.new hp))) hz1.2
section
variable {K : PySem.W.Frag} {S A : List Addr} {H : Hp} {Δ : Store}
/-- a new object becomes a cell -/
theorem Cells.newO (hc : Cells K C S A H Δ) {p : Addr} {u : HO} {o : O} (h : H p = none) (r : CellAt K C S (A ++ [p]) (upd H p u) p o) : Cells K C S (A ++ [p]) (upd H p u) (Δ ++ [o]) := by
  have e := Ext.newCell (A := A) (o := u) h
  refine ⟨by rw [List.length_append, List.length_append, hc.len] <;> rfl, ?_, ?_, ?_, ?_⟩
  · refine List.nodup_append.mpr ⟨hc.nd, by simp, fun a ha b hb => ?_⟩
    rw [List.mem_singleton] at hb
    subst hb
    exact fun q => hc.fresh h (q ▸ ha)
  · intro a ha
    rcases List.mem_append.mp ha with ha | ha
    · exact hc.dj a ha
    · rw [List.mem_singleton] at ha
      subst ha
      exact hc.aside h
  · intro a ha q
    exact hc.as a ha (e.trk a q)
  · intro n a w h1 h2
    by_cases hn : n < A.length
    · rw [List.getElem?_append_left hn] at h1
      rw [List.getElem?_append_left (by rw [← hc.len]; exact hn)] at h2
      exact (hc.at_ n a w h1 h2).mono e.mo fun y q => by rw [upd_ne (ne_of_none q h)]; exact q
    · have hn2 : n = A.length := by
        have := (List.getElem?_eq_some_iff.mp h1).1
        rw [List.length_append] at this
        simp at this
        omega
      subst hn2
      rw [List.getElem?_append_right (Nat.le_refl _), Nat.sub_self] at h1
      rw [hc.len, List.getElem?_append_right (Nat.le_refl _), Nat.sub_self] at h2
      simp at h1 h2
      subst h1
      subst h2
      exact r
theorem Cells.newCell (hc : Cells K C S A H Δ) {p : Addr} {xs : List V} {ds : List D} (h : H p = none) (r : RepL K C S A H xs ds) : Cells K C S (A ++ [p]) (upd H p (.lst xs)) (Δ ++ [.lst ds]) :=
  hc.newO h ⟨xs, upd_same, r.ext (Ext.newCell h)⟩
/-- a cell's content is replaced -/
theorem Cells.putO (hc : Cells K C S A H Δ) {n : Nat} {p : Addr} {u : HO} {o : O} (h : A[n]? = some p) (r : CellAt K C S A (upd H p u) p o) : Cells K C S A (upd H p u) (Δ.set n o) ∧ Ext A H A (upd H p u) := by
  have hl : n < Δ.length := by rw [← hc.len]; exact (List.getElem?_eq_some_iff.mp h).1
  have hp : p ∈ A := List.mem_of_getElem? h
  have hne : H p ≠ none := (hc.at_ n p _ h (List.getElem?_eq_getElem hl)).trk
  have e : Ext A H A (upd H p u) := Ext.write hp hne
  refine ⟨⟨by rw [List.length_set]; exact hc.len, hc.nd, hc.dj, fun a ha q => hc.as a ha (e.trk a q), fun m a w h1 h2 => ?_⟩, e⟩
  by_cases hm : m = n
  · subst hm
    rw [h] at h1
    cases h1
    rw [List.getElem?_set_self hl] at h2
    cases h2
    exact r
  · rw [List.getElem?_set_ne (Ne.symm hm)] at h2
    have hap : a ≠ p := fun q => hm (by
      subst q
      obtain ⟨l1, q1⟩ := List.getElem?_eq_some_iff.mp h1
      obtain ⟨l2, q2⟩ := List.getElem?_eq_some_iff.mp h
      exact (List.getElem_inj hc.nd).mp (q1.trans q2.symm))
    exact (hc.at_ m a w h1 h2).mono e.mo fun y q => by rw [upd_ne hap]; exact q
theorem Cells.put (hc : Cells K C S A H Δ) {n : Nat} {p : Addr} {xs : List V} {ds : List D} (h : A[n]? = some p) (r : RepL K C S A H xs ds) : Cells K C S A (upd H p (.lst xs)) (Δ.set n (.lst ds)) ∧ Ext A H A (upd H p (.lst xs)) := by
  have hl : n < Δ.length := by rw [← hc.len]; exact (List.getElem?_eq_some_iff.mp h).1
  have hp : p ∈ A := List.mem_of_getElem? h
  have e : Ext A H A (upd H p (.lst xs)) := Ext.write hp (hc.at_ n p _ h (List.getElem?_eq_getElem hl)).trk
  exact hc.putO h ⟨xs, upd_same, r.ext e⟩
end
theorem ez_lstC (h : AZ C X es zs) : EZ C X (.List es pos) (zLstC zs) := by
  obtain ⟨t, h1, h2⟩ := h.ex
  refine ⟨_, pe_lst h1, fun S A σ H Γ Δ P Q hs hc hz k => h2 S A σ H Γ Δ _ _ hs hc hz fun vs ds A1 H1 Δ1 e1 c1 r1 hz1 => ?_⟩
  refine ⟨sz100 (by rw [r1.length]; exact hz1.1), fun p hp => ?_⟩
  refine k _ _ (A1 ++ [p]) _ _ (e1.trans (Ext.newCell hp)) (c1.newCell hp r1) (.cell ?_) hz1.2
  rw [← c1.len, List.getElem?_append_right (Nat.le_refl _), Nat.sub_self]
  rfl

/-! ### subscripts, slices -/
def zIx : ZR2 := fun x y Δ P => ∃ ds i d, y = .int i ∧ seqD Δ x = some ds ∧ atI ds i = some d ∧ P d Δ
theorem atI_rep {K : PySem.W.Frag} {S A : List Addr} {H : Hp} {xs : List V} {ds : List D} {i : Int} {d : D} (r : RepL K C S A H xs ds) (h : atI ds i = some d) : ∃ v, atI xs i = some v ∧ Rep K C S A H v d := by
  unfold atI at h ⊢
  rw [r.length]
  cases q : ixN ds.length i with
  | none => rw [q] at h; cases h
  | some j =>
    rw [q] at h
    obtain ⟨v, h1, h2⟩ := r.get (show ds[j]? = some d from h)
    exact ⟨v, h1, h2⟩
theorem ez_ix (ha : EZ C X a za) (hb : EZ C X b zb) (hp : PlainIx b := by exact fun _ _ => rfl) : EZ C X (.Subscript a b pos) (zOp zIx za zb) := by
  obtain ⟨ta, a1, a2⟩ := ha.ex
  obtain ⟨tb, b1, b2⟩ := hb.ex
  refine ⟨_, pe_ix (ix_list.or ix_tup) a1 b1 hp, ref_op (fun S A H Δ x y dx dy P Q hc rx ry hz k => ?_) a2 b2⟩
  obtain ⟨ds, i, d, rfl, e, g, p⟩ := hz
  obtain ⟨pa, xs, rfl, hq, r⟩ := Rep.seq hc rx e
  cases ry
  obtain ⟨v, h1, h2⟩ := atI_rep r g
  have fin := k v d A H Δ (Ext.refl _ _) hc h2 p
  rcases hq with hq | hq
  · exact .inl ⟨pa, xs, i, v, rfl, rfl, hq, h1, fin⟩
  · exact .inr ⟨pa, xs, i, v, rfl, rfl, hq, h1, fin⟩
abbrev ZO := Env → Store → (Option Int → Store → Prop) → Prop
structure OZ (C : CI) (X : Cx) (e : Option Expr) (z : ZO) : Prop where
  ex : ∃ t, PO X e t ∧ ∀ (S A : List Addr) (σ : L2.St) (H : Hp) (Γ : Env) (Δ : Store) (P : Option Int → Store → Prop) (Q : Option Int → Hp → Prop), Slots X.K C S A H σ Γ → Cells X.K C S A H Δ → z Γ Δ P →
    (∀ o A' H' Δ', Ext A H A' H' → Cells X.K C S A' H' Δ' → P o Δ' → Q o H') → t σ H Q
def zNoPart : ZO := fun _ Δ P => P none Δ
def zPart (z : ZE) : ZO := fun Γ Δ P => z Γ Δ fun d Δ1 => ∃ i, d = .int i ∧ P (some i) Δ1
theorem oz_none : OZ C X none zNoPart := ⟨_, po_none, fun S A σ H Γ Δ P Q hs hc hz k => k none A H Δ (Ext.refl _ _) hc hz⟩
theorem oz_some {z : ZE} (h : EZ C X e z) : OZ C X (some e) (zPart z) := by
  obtain ⟨t, h1, h2⟩ := h.ex
  refine ⟨_, po_some h1, fun S A σ H Γ Δ P Q hs hc hz k => h2 S A σ H Γ Δ _ _ hs hc hz fun v d A1 H1 Δ1 e1 c1 r1 hz1 => ?_⟩
  obtain ⟨i, rfl, p⟩ := hz1
  cases r1
  exact ⟨i, rfl, k _ A1 H1 Δ1 e1 c1 p⟩
/-- the items from lo to hi -/
def cutD (xs : List D) (lo hi : Option Int) : List D := (xs.drop (HT.sIx xs.length 0 lo)).take (HT.sIx xs.length xs.length hi - HT.sIx xs.length 0 lo)
def zSl (z : ZE) (zl zh : ZO) : ZE := fun Γ Δ P => z Γ Δ fun x Δ1 => zl Γ Δ1 fun l Δ2 => zh Γ Δ2 fun u Δ3 => ∃ ds, (x = .lst ds ∨ (∃ n, x = .cell n ∧ Δ3[n]? = some (.lst ds)) ∨ ∃ ns, x = .scr ns ∧ ds = ns.map D.int) ∧ P (.lst (cutD ds l u)) Δ3
theorem ez_sl {lo hi : Option Expr} {zl zh : ZO} {p2 : Pos} (ha : EZ C X a za) (hl : OZ C X lo zl) (hh : OZ C X hi zh) : EZ C X (.Subscript a (.Slice lo hi none p2) pos) (zSl za zl zh) := by
  obtain ⟨t, a1, a2⟩ := ha.ex
  obtain ⟨tl, l1, l2⟩ := hl.ex
  obtain ⟨th, u1, u2⟩ := hh.ex
  refine ⟨_, pe_slice sl_list a1 l1 u1, fun S A σ H Γ Δ P Q hs hc hz k => a2 S A σ H Γ Δ _ _ hs hc hz fun x dx A1 H1 Δ1 e1 c1 r1 hz1 => ?_⟩
  refine l2 S A1 σ H1 Γ Δ1 _ _ (hs.ext e1) c1 hz1 fun l A2 H2 Δ2 e2 c2 hz2 => u2 S A2 σ H2 Γ Δ2 _ _ ((hs.ext e1).ext e2) c2 hz2 fun u A3 H3 Δ3 e3 c3 hz3 => ?_
  obtain ⟨ds, hd, p⟩ := hz3
  have r3 := (r1.ext e2).ext e3
  have hq : ∃ pa xs, x = .ref pa ∧ SqL X.K H3 pa xs ∧ RepL X.K C S A3 H3 xs ds := by
    rcases hd with rfl | ⟨n, rfl, hd⟩ | ⟨ns, rfl, rfl⟩
    · cases r3 with
      | lst g1 _ _ g4 => exact ⟨_, _, rfl, SqL.of g1, g4⟩
    · cases r3 with
      | cell g =>
        obtain ⟨xs, g1, g2⟩ := c3.at_ n _ _ g hd
        exact ⟨_, _, rfl, SqL.of g1, g2⟩
    · cases r3 with
      | scr g =>
        refine ⟨_, _, rfl, ?_, repL_ints ns⟩
        rcases g with ⟨⟨o, g⟩, _⟩ | g
        · exact .inl (.inr ⟨o, g⟩)
        · exact .inr g
  obtain ⟨pa, xs, rfl, hS, r⟩ := hq
  have hcut : RepL X.K C S A3 H3 (cutV xs l u) (cutD ds l u) := by
    unfold cutV cutD
    rw [r.length]
    exact (r.drop _).take _
  refine ⟨pa, xs, rfl, hS, fun q hq => ?_⟩
  have e4 := Ext.new (A := A3) (o := .lst (cutV xs l u)) hq
  exact k _ _ A3 _ Δ3 (((e1.trans e2).trans e3).trans e4) (c3.new hq) (.lst upd_same (c3.fresh hq) (c3.aside hq) (hcut.ext e4)) p
/-- a list of the Δ's that is not the script, to be joined -/
def lstD (Δ : Store) : D → Option (List D)
  | .lst ds => some ds
  | .cell n => match Δ[n]? with
    | some (.lst ds) => some ds
    | _ => none
  | _ => none
theorem Rep.lst_ {K : PySem.W.Frag} {S A : List Addr} {H : Hp} {Δ : Store} {x : V} {d : D} {ds : List D} (hc : Cells K C S A H Δ) (r : Rep K C S A H x d) (h : lstD Δ d = some ds) :
    ∃ p xs, x = .ref p ∧ H p = some (.lst xs) ∧ RepL K C S A H xs ds := by
  cases r with
  | lst h1 h2 h3 r => cases h; exact ⟨_, _, rfl, h1, r⟩
  | cell e =>
    rename_i a n
    unfold lstD at h
    cases q : Δ[n]? with
    | none => simp only [q] at h; cases h
    | some o =>
      cases o with
      | ins _ _ => simp only [q] at h; cases h
      | dct _ _ => simp only [q] at h; cases h
      | lst es =>
        simp only [q] at h
        cases h
        obtain ⟨xs, h1, h2⟩ := hc.at_ n a _ e q
        exact ⟨a, xs, rfl, h1, h2⟩
  | _ => cases h
/-- xs + ys | ints -/
def zAddA : ZR2 := fun x y Δ P => (∃ i j, x = .int i ∧ y = .int j ∧ P (.int (i + j)) Δ) ∨ ∃ ds es, lstD Δ x = some ds ∧ lstD Δ y = some es ∧ ds.length + es.length ≤ 100000 ∧ P (.lst (ds ++ es)) Δ
theorem OpR.or {f : Value → Value → Sem Value} {r r' : R2} (h : OpR X f r) (h' : OpR X f r') : OpR X f (fun x y H Q => r x y H Q ∨ r' x y H Q) := fun pins s σ H x y v u Q I rx ry q => q.elim (h pins s σ H x y v u Q I rx ry) (h' pins s σ H x y v u Q I rx ry)
def zCat : ZR2 := fun x y Δ P => ∃ ds es, lstD Δ x = some ds ∧ lstD Δ y = some es ∧ ds.length + es.length ≤ 100000 ∧ P (.lst (ds ++ es)) Δ
theorem ref_cat {K : PySem.W.Frag} : Ref2 K C rCat zCat := fun S A H Δ x y dx dy P Q hc rx ry hz k => by
  obtain ⟨ds, es, h1, h2, hl, p⟩ := hz
  obtain ⟨a, xs, rfl, g1, g2⟩ := Rep.lst_ hc rx h1
  obtain ⟨b, ys, rfl, g3, g4⟩ := Rep.lst_ hc ry h2
  refine ⟨a, b, xs, ys, rfl, rfl, g1, g3, sz100 (by rw [g2.length, g4.length]; exact hl), fun q hq => ?_⟩
  have e := Ext.new (A := A) (o := .lst (xs ++ ys)) hq
  exact k _ _ A _ Δ e (hc.new hq) (.lst upd_same (hc.fresh hq) (hc.aside hq) ((g2.append g4).ext e)) p
theorem oz_cat : OpZ C X (binaryOp .Add) zCat := ⟨_, op_cat, ref_cat⟩
theorem oz_addA : OpZ C X (binaryOp .Add) zAddA := ⟨_, op_add.or op_cat, fun S A H Δ x y dx dy P Q hc rx ry hz k => by
  rcases hz with ⟨i, j, h1, h2, p⟩ | hz
  · exact .inl (ref_I0 (g' := fun i j => .int (i + j)) (fun i j _ _ _ => .int _) S A H Δ x y dx dy P Q hc rx ry ⟨i, j, h1, h2, p⟩ k)
  · exact .inr (ref_cat S A H Δ x y dx dy P Q hc rx ry hz k)⟩
def zRepeat : ZR2 := fun x y Δ P => ∃ ds k, lstD Δ x = some ds ∧ y = .int k ∧ -(2 ^ 63) ≤ k ∧ k < 2 ^ 63 ∧ ds.length * k.toNat ≤ 100000 ∧ P (.lst (List.replicate k.toNat ds).flatten) Δ
theorem oz_rep : OpZ C X (binaryOp .Mult) zRepeat := ⟨_, op_rep, fun S A H Δ x y dx dy P Q hc rx ry hz k => by
  obtain ⟨ds, i, h1, rfl, h2, h3, hl, p⟩ := hz
  obtain ⟨a, xs, rfl, g1, g2⟩ := Rep.lst_ hc rx h1
  cases ry
  refine ⟨a, i, xs, rfl, rfl, g1, h2, h3, sz100 (by rw [g2.length]; exact hl), fun q hq => ?_⟩
  have e := Ext.new (A := A) (o := .lst (List.replicate i.toNat xs).flatten) hq
  exact k _ _ A _ Δ e (hc.new hq) (.lst upd_same (hc.fresh hq) (hc.aside hq) ((g2.repl _).ext e)) p⟩
end
end Z

/-! Z3: statements, loops, comprehensions, calls of defs and built-ins over data. -/
namespace Z
open PySem L2

/-! ### targets -/
abbrev ZG := D → Env → Store → (Env → Store → Prop) → Prop
abbrev ZGs := List D → Env → Store → (Env → Store → Prop) → Prop
def RefG (K : PySem.W.Frag) (C : CI) (g : TG) (z : ZG) : Prop := ∀ (S A : List Addr) (σ : L2.St) (H : Hp) (Γ : Env) (Δ : Store) (v : V) (d : D) (P : Env → Store → Prop) (Q : L2.St → Hp → Prop), Slots K C S A H σ Γ → Cells K C S A H Δ → Rep K C S A H v d → z d Γ Δ P →
  NxOk K C S A H P Q → g v σ H Q
def RefGs (K : PySem.W.Frag) (C : CI) (g : TGs) (z : ZGs) : Prop := ∀ (S A : List Addr) (σ : L2.St) (H : Hp) (Γ : Env) (Δ : Store) (vs : List V) (ds : List D) (P : Env → Store → Prop) (Q : L2.St → Hp → Prop), Slots K C S A H σ Γ → Cells K C S A H Δ → RepL K C S A H vs ds → z ds Γ Δ P →
  NxOk K C S A H P Q → g vs σ H Q
structure GZ (C : CI) (X : Cx) (e : Expr) (g : TG) (z : ZG) : Prop where
  pg : PG X e g
  ref : RefG X.K C g z
structure GsZ (C : CI) (X : Cx) (es : List Expr) (g : TGs) (z : ZGs) : Prop where
  pg : PGs X es g
  ref : RefGs X.K C g z
def zgName (i : Nat) : ZG := fun d Γ Δ P => P (Γ.set i (some d)) Δ
def zgNil : ZGs := fun ds Γ Δ P => ds = [] ∧ P Γ Δ
def zgCons (g : ZG) (gs : ZGs) : ZGs := fun ds Γ Δ P => ∃ d r, ds = d :: r ∧ g d Γ Δ fun Γ' Δ' => gs r Γ' Δ' P
def zgTup (n : Nat) (gs : ZGs) : ZG := fun d Γ Δ P => ∃ ds, d = .tup ds ∧ ds.length = n ∧ gs ds Γ Δ P
def zgSub (zo zi : ZE) : ZG := fun d Γ Δ P => zo Γ Δ fun o Δ1 => zi Γ Δ1 fun y Δ2 => ∃ n ds i j, o = .cell n ∧ Δ2[n]? = some (.lst ds) ∧ y = .int i ∧ ixN ds.length i = some j ∧ P Γ (Δ2.set n (.lst (ds.set j d)))
section
variable {C : CI} {X : Cx} {pos : Pos}
theorem gz_name {i : Nat} {x : Str} (hN : X.N.Nodup) (hi : X.N[i]? = some x) (hx : Loc X.env.scope x := by first | exact Or.inl rfl | exact Or.inr rfl) (hf : X.fn x = true ∨ X.env.scope.names.lookup x = some .local := by first | exact .inl rfl | exact .inr rfl | assumption) : GZ C X (.Name x pos) (gName i) (zgName i) :=
  ⟨pg_name hN hi hx hf, fun S A σ H Γ Δ v d P Q hs hc r hz k => k _ A H _ Δ (Ext.refl _ _) (hs.set i r) hc hz⟩
theorem gsz_nil : GsZ C X [] gNil zgNil := ⟨pgs_nil, fun S A σ H Γ Δ vs ds P Q hs hc r hz k => by
  obtain ⟨rfl, p⟩ := hz
  cases r
  exact ⟨rfl, k _ A H _ Δ (Ext.refl _ _) hs hc p⟩⟩
theorem gsz_cons {e : Expr} {es : List Expr} {g : TG} {gs : TGs} {z : ZG} {zs : ZGs} (h : GZ C X e g z) (hr : GsZ C X es gs zs) (hst : (assignEach (e :: es) X.env).map (·.2) = assign e X.env :: (assignEach es X.env).map (·.2) := by rfl) : GsZ C X (e :: es) (gCons g gs) (zgCons z zs) :=
  ⟨pgs_cons h.pg hr.pg hst, fun S A σ H Γ Δ vs ds P Q hs hc r hz k => by
    obtain ⟨d, rest, rfl, p⟩ := hz
    cases r with
    | cons r1 r2 =>
      exact ⟨_, _, rfl, h.ref S A σ H Γ Δ _ d _ _ hs hc r1 p fun σ' A' H' Γ' Δ' e1 s1 c1 p1 => hr.ref S A' σ' H' Γ' Δ' _ rest P Q s1 c1 (r2.ext e1) p1 (k.ext e1)⟩⟩
theorem gz_tup {es : List Expr} {k : Nat} {gs : TGs} {zs : ZGs} {n : Nat} (h : GsZ C X es gs zs) (hc : X.calm = true := by rfl) (hn : (assignEach es X.env).length = n := by rfl) (hst : (assignEach es X.env).findIdx? (·.1) = none := by rfl) : GZ C X (.Tuple es k pos) (gTup X.K n gs) (zgTup n zs) :=
  ⟨pg_tup hc h.pg hn hst, fun S A σ H Γ Δ v d P Q hs hc r hz k => by
    obtain ⟨ds, rfl, hl, p⟩ := hz
    cases r with
    | tup h1 h2 h3 r => exact ⟨_, _, rfl, SqT.of h1, by rw [r.length]; exact hl, h.ref S A σ H Γ Δ _ ds P Q hs hc r p k⟩⟩
theorem gz_sub {o i : Expr} {zo zi : ZE} (ho : EZ C X o zo) (hi : EZ C X i zi) (ha : ∀ v, assign (.Subscript o i pos) X.env v = (do
      let ov ← holding [v] (eval o X.env)
      let iv ← holding [v, ov] (eval i X.env)
      standAt pos
      holding [v, ov, iv] (setItem ov iv v)
      release [v, ov, iv] []) := by intro _; rfl) : ∃ g, GZ C X (.Subscript o i pos) g (zgSub zo zi) := by
  obtain ⟨to, o1, o2⟩ := ho.ex
  obtain ⟨ti, i1, i2⟩ := hi.ex
  refine ⟨_, pg_sub o1 i1 set_list ha, fun S A σ H Γ Δ v d P Q hs hc r hz k => o2 S A σ H Γ Δ _ _ hs hc hz fun ov od A1 H1 Δ1 e1 c1 r1 hz1 => i2 S A1 σ H1 Γ Δ1 _ _ (hs.ext e1) c1 hz1 fun iv id A2 H2 Δ2 e2 c2 r2 hz2 => ?_⟩
  obtain ⟨n, ds, i, j, rfl, hd, rfl, hj, p⟩ := hz2
  cases r2
  cases r1.ext e2 with
  | cell g =>
    obtain ⟨xs, g1, g2⟩ := c2.at_ n _ _ g hd
    have q := c2.put g (g2.set j (r.ext (e1.trans e2)))
    exact ⟨_, xs, i, j, rfl, rfl, g1, by rw [g2.length]; exact hj, k σ A2 _ Γ _ ((e1.trans e2).trans q.2) ((hs.ext (e1.trans e2)).ext q.2) q.1 p⟩
end

/-! ### statements -/
def zNext : ZS := fun Z Γ Δ => Z.nx Γ Δ
def zSeq (t u : ZS) : ZS := fun Z Γ Δ => t { Z with nx := u Z } Γ Δ
def zBreak : ZS := fun Z Γ Δ => Z.bk Γ Δ
def zCont : ZS := fun Z Γ Δ => Z.ct Γ Δ
def zDrop (z : ZE) : ZS := fun Z Γ Δ => z Γ Δ fun _ Δ1 => Z.nx Γ Δ1
def zRet (z : ZE) : ZS := fun Z Γ Δ => z Γ Δ Z.rt
def zRetN : ZS := fun Z _ Δ => Z.rt .non Δ
def zIfS (t : ZT) (a b : ZS) : ZS := fun Z Γ Δ => t Γ Δ fun c Δ1 => (c = true → a Z Γ Δ1) ∧ (c = false → b Z Γ Δ1)
def zNever : ZS := fun _ _ _ => False
def zAsg (z : ZE) (g : ZG) : ZS := fun Z Γ Δ => z Γ Δ fun d Δ1 => g d Γ Δ1 Z.nx
def zPar (i j : Nat) (za : ZA) : ZS := fun Z Γ Δ => za Γ Δ fun ds Δ1 => ∃ a b, ds = [a, b] ∧ Z.nx ((Γ.set i (some a)).set j (some b)) Δ1
def zWhile (t : ZT) (zs : ZS) : ZS := fun Z Γ Δ => ∃ W : Nat → Env → Store → Prop, (∃ m, W m Γ Δ) ∧ ∀ m Γ Δ, W m Γ Δ → t Γ Δ fun b Δ1 =>
  (b = true → zs { Z with nx := fun Γ' Δ' => ∃ m', m' < m ∧ W m' Γ' Δ', ct := fun Γ' Δ' => ∃ m', m' < m ∧ W m' Γ' Δ', bk := Z.nx } Γ Δ1) ∧ (b = false → Z.nx Γ Δ1)
section
variable {C : CI} {X : Cx} {st : Stmt} {rest : List Stmt} {t u : ZS} {e : Expr} {ze : ZE} {pos : Pos}
theorem szs_nil : SZs C X [] zNext := ⟨_, pss_nil, fun S A σ H Γ Δ Z N hs hc hz k => k.nx σ A H Γ Δ (Ext.refl _ _) hs hc hz⟩
theorem szs_cons (h1 : SZ C X st t) (h2 : SZs C X rest u) : SZs C X (st :: rest) (zSeq t u) := by
  obtain ⟨a, a1, a2⟩ := h1.ex
  obtain ⟨b, b1, b2⟩ := h2.ex
  exact ⟨_, pss_cons a1 b1, fun S A σ H Γ Δ Z N hs hc hz k => a2 S A σ H Γ Δ { Z with nx := u Z } { N with nx := b N } hs hc hz
    ⟨fun σ' A' H' Γ' Δ' e s c z => b2 S A' σ' H' Γ' Δ' Z N s c z (k.ext e), k.bk, k.ct, k.rt⟩⟩
theorem szs_one (h1 : SZ C X st t) : SZs C X [st] t := by
  obtain ⟨a, a1, a2⟩ := h1.ex
  exact ⟨_, pss_one a1, a2⟩
theorem szs_never {sts : List Stmt} : SZs C X sts zNever := ⟨_, pss_never, fun S A σ H Γ Δ Z N hs hc hz k => hz.elim⟩
theorem sz_never : SZ C X st zNever := ⟨_, ps_never, fun S A σ H Γ Δ Z N hs hc hz k => hz.elim⟩
theorem sz_pass : SZ C X (.Pass pos) zNext := ⟨_, ps_pass, fun S A σ H Γ Δ Z N hs hc hz k => k.nx σ A H Γ Δ (Ext.refl _ _) hs hc hz⟩
theorem sz_break : SZ C X (.Break pos) zBreak := ⟨_, ps_break, fun S A σ H Γ Δ Z N hs hc hz k => k.bk σ A H Γ Δ (Ext.refl _ _) hs hc hz⟩
theorem sz_continue : SZ C X (.Continue pos) zCont := ⟨_, ps_continue, fun S A σ H Γ Δ Z N hs hc hz k => k.ct σ A H Γ Δ (Ext.refl _ _) hs hc hz⟩
theorem sz_expr (h : EZ C X e ze) (hs : swapsWith e none pos.line X.env = pure false := by rfl) : SZ C X (.Expr e pos) (zDrop ze) := by
  obtain ⟨t, h1, h2⟩ := h.ex
  exact ⟨_, ps_expr h1 hs, fun S A σ H Γ Δ Z N hs hc hz k => h2 S A σ H Γ Δ _ _ hs hc hz fun v d A' H' Δ' e c r p => k.nx σ A' H' Γ Δ' e (hs.ext e) c p⟩
theorem sz_ret (h : EZ C X e ze) : SZ C X (.Return (some e) pos) (zRet ze) := by
  obtain ⟨t, h1, h2⟩ := h.ex
  exact ⟨_, ps_ret h1, fun S A σ H Γ Δ Z N hs hc hz k => h2 S A σ H Γ Δ _ _ hs hc hz fun v d A' H' Δ' e c r p => k.rt v d A' H' Δ' e c r p⟩
theorem sz_retN : SZ C X (.Return none pos) zRetN := ⟨_, ps_retN, fun S A σ H Γ Δ Z N hs hc hz k => k.rt _ _ A H Δ (Ext.refl _ _) hc .non hz⟩
theorem sz_if {c : Expr} {a b : List Stmt} {zc : ZT} (hc : TZ C X c zc) (ha : SZs C X a t) (hb : SZs C X b u) : SZ C X (.If c a b pos) (zIfS zc t u) := by
  obtain ⟨tc, c1, c2⟩ := hc.ex
  obtain ⟨ta, a1, a2⟩ := ha.ex
  obtain ⟨tb, b1, b2⟩ := hb.ex
  refine ⟨_, ps_if c1 a1 b1, fun S A σ H Γ Δ Z N hs hc hz k => c2 S A σ H Γ Δ _ _ hs hc hz fun d A1 H1 Δ1 e1 c1 hz1 => ?_⟩
  cases d with
  | true => exact iteT (a2 S A1 σ H1 Γ Δ1 Z N (hs.ext e1) c1 (hz1.1 rfl) (k.ext e1))
  | false => exact iteF (b2 S A1 σ H1 Γ Δ1 Z N (hs.ext e1) c1 (hz1.2 rfl) (k.ext e1))
theorem ref_asg {K : PySem.W.Frag} {te : TE} {g : TG} {zg : ZG} (h : RefE K C te ze) (hg : RefG K C g zg) : RefS K C (tAsg te g) (zAsg ze zg) := fun S A σ H Γ Δ Z N hs hc hz k =>
  h S A σ H Γ Δ _ _ hs hc hz fun v d A1 H1 Δ1 e1 c1 r1 p => hg S A1 σ H1 Γ Δ1 v d Z.nx N.nx (hs.ext e1) c1 r1 p (k.nx.ext e1)
theorem sz_asg {tg : Expr} {g : TG} {zg : ZG} (h : EZ C X e ze) (hg : GZ C X tg g zg) (hs : swapsWithSole [tg] e pos.line X.env = pure false := by rfl) (hw : swappedStores [tg] e X.env = pure none := by rfl)
    (h1 : (assignEach [tg] X.env).map (·.2) = [assign tg X.env] := by rfl) : SZ C X (.Assign [tg] e pos) (zAsg ze zg) := by
  obtain ⟨t, a1, a2⟩ := h.ex
  exact ⟨_, ps_asg a1 hg.pg hs hw h1, ref_asg a2 hg.ref⟩
theorem sz_asgSub {tg : Expr} {zg : ZG} (h : EZ C X e ze) (hg : ∃ g, GZ C X tg g zg) (hs : swapsWithSole [tg] e pos.line X.env = pure false := by rfl) (hw : swappedStores [tg] e X.env = pure none := by rfl)
    (h1 : (assignEach [tg] X.env).map (·.2) = [assign tg X.env] := by rfl) : SZ C X (.Assign [tg] e pos) (zAsg ze zg) := by
  obtain ⟨g, hg⟩ := hg
  exact sz_asg h hg hs hw h1
theorem sz_set {i : Nat} {x : Str} {pos' : Pos} (hN : X.N.Nodup) (h : EZ C X e ze) (hi : X.N[i]? = some x := by rfl) (hx : Loc X.env.scope x := by first | exact Or.inl rfl | exact Or.inr rfl) (hs : swapsWith e (some (.Name x pos')) pos.line X.env = pure false := by rfl)
    (hf : X.fn x = true ∨ X.env.scope.names.lookup x = some .local := by first | exact .inl rfl | exact .inr rfl | assumption) : SZ C X (.Assign [.Name x pos'] e pos) (zAsg ze (zgName i)) := by
  obtain ⟨t, a1, a2⟩ := h.ex
  exact ⟨_, ps_set hN hi hx a1 hs hf, ref_asg a2 (gz_name (C := C) (pos := pos') hN hi hx hf).ref⟩
theorem sz_par {i j : Nat} {x y : Str} {a b : Expr} {za : ZA} {px py pt : Pos} {kt k2 pt2} (hN : X.N.Nodup) (hi : X.N[i]? = some x) (hj : X.N[j]? = some y) (hij : i ≠ j)
    (hx : X.env.scope.names.lookup x = some .local) (hy : X.env.scope.names.lookup y = some .local) (ha : AZ C X [a, b] za)
    (hw : swappedStores [.Tuple [.Name x px, .Name y py] kt pt] (.Tuple [a, b] k2 pt2) X.env = pure (some [x, y]) := by rfl)
    (hs : swapsWithSole [.Tuple [.Name x px, .Name y py] kt pt] (.Tuple [a, b] k2 pt2) pos.line X.env = pure false := by rfl) (hc : X.calm = true := by rfl) :
    SZ C X (.Assign [.Tuple [.Name x px, .Name y py] kt pt] (.Tuple [a, b] k2 pt2) pos) (zPar i j za) := by
  obtain ⟨t, a1, a2⟩ := ha.ex
  refine ⟨_, ps_par hc hN hi hj hij hx hy a1 hw hs, fun S A σ H Γ Δ Z N hs hc hz k => a2 S A σ H Γ Δ _ _ hs hc hz fun vs ds A1 H1 Δ1 e1 c1 r1 p => ?_⟩
  obtain ⟨a, b, rfl, p⟩ := p
  cases r1 with
  | cons r1 r2 =>
    cases r2 with
    | cons r2 r3 =>
      cases r3
      exact ⟨_, _, rfl, k.nx _ A1 H1 _ Δ1 e1 (((hs.ext e1).set i r1).set j r2) c1 p⟩
theorem sz_while {c : Expr} {body : List Stmt} {zc : ZT} {zb : ZS} (hc : TZ C X c zc) (hb : SZs C X body zb) (hp : PassesOwn (model X.prog X.w) X.A X.env X.xe := by exact PassesOwn.never) : SZ C X (.While c body [] pos) (zWhile zc zb) := by
  obtain ⟨tc, c1, c2⟩ := hc.ex
  obtain ⟨tb, b1, b2⟩ := hb.ex
  refine ⟨_, ps_while hp c1 b1, fun S A σ H Γ Δ Z N hs hc hz k => ?_⟩
  obtain ⟨W, ⟨m0, w0⟩, hW⟩ := hz
  refine ⟨fun m σ' H' => ∃ A' Γ' Δ', Ext A H A' H' ∧ Slots X.K C S A' H' σ' Γ' ∧ Cells X.K C S A' H' Δ' ∧ W m Γ' Δ', ⟨m0, A, Γ, Δ, Ext.refl _ _, hs, hc, w0⟩, ?_⟩
  rintro m σ' H' ⟨A', Γ', Δ', e, s, c, w⟩
  refine c2 S A' σ' H' Γ' Δ' _ _ s c (hW m Γ' Δ' w) fun b A1 H1 Δ1 e1 c1 p => ?_
  cases b with
  | false => exact iteF (k.nx σ' A1 H1 Γ' Δ1 (e.trans e1) (s.ext e1) c1 (p.2 rfl))
  | true =>
    refine iteT ⟨fun σ2 H2 => ∃ A2 Γ2 Δ2, Ext A H A2 H2 ∧ Slots X.K C S A2 H2 σ2 Γ2 ∧ Cells X.K C S A2 H2 Δ2 ∧ ∃ m', m' < m ∧ W m' Γ2 Δ2, ?_, ?_⟩
    · rintro σ2 H2 ⟨A2, Γ2, Δ2, e2, s2, c2, m', hm, w'⟩
      exact ⟨m', hm, A2, Γ2, Δ2, e2, s2, c2, w'⟩
    · refine b2 S A1 σ' H1 Γ' Δ1 _ _ (s.ext e1) c1 (p.1 rfl) ⟨?_, ?_, ?_, ?_⟩
      · exact fun σ2 A2 H2 Γ2 Δ2 e2 s2 c2 q => ⟨A2, Γ2, Δ2, (e.trans e1).trans e2, s2, c2, q⟩
      · exact k.nx.ext (e.trans e1)
      · exact fun σ2 A2 H2 Γ2 Δ2 e2 s2 c2 q => ⟨A2, Γ2, Δ2, (e.trans e1).trans e2, s2, c2, q⟩
      · exact fun v d A2 H2 Δ2 e2 c2 r q => k.rt v d A2 H2 Δ2 ((e.trans e1).trans e2) c2 r q

/-! ### what is walked -/
abbrev ZI := Env → Store → (List D → Store → Prop) → Prop
def RefI (K : PySem.W.Frag) (C : CI) (wi : TI) (zi : ZI) : Prop := ∀ (S A : List Addr) (σ : L2.St) (H : Hp) (Γ : Env) (Δ : Store) (P : List D → Store → Prop) (R : It → Hp → Prop), Slots K C S A H σ Γ → Cells K C S A H Δ → zi Γ Δ P →
  (∀ (J : It) (n : Nat) (G : Hp → Prop) (Y : Nat → Hp → V → Hp → Prop) (items : List D) (A' : List Addr) (H' : Hp) (Δ' : Store), Ext A H A' H' → Cells K C S A' H' Δ' → P items Δ' → n = items.length → Walk J n G Y →
    (∀ S2 A2 H2, Mo S A' H' S2 A2 H2 → G H2) →
    (∀ S2 A2 H2 Δ2 i x H3, i < n → Mo S A' H' S2 A2 H2 → Cells K C S2 A2 H2 Δ2 → Y i H2 x H3 → ∃ d, items[i]? = some d ∧ (∀ a o, H2 a = some o → H3 a = some o) ∧ Rep K C S2 A2 H3 x d) → R J H') → wi σ H R
structure IZ (C : CI) (X : Cx) (tg iter : Expr) (zi : ZI) : Prop where
  ex : ∃ wi, PI X tg iter wi ∧ RefI X.K C wi zi
theorem Ext.kept {A : List Addr} {H H' : Hp} (k : ∀ a o, H a = some o → H' a = some o) : Ext A H A H' := ⟨⟨[], by simp, by simp⟩, fun a o _ h => k a o h, fun a h => by
  cases q : H a with
  | none => rfl
  | some o => rw [k a o q] at h; cases h⟩
/-- a list (its own, or the script) -/
def ziList (z : ZE) : ZI := fun Γ Δ P => z Γ Δ fun d Δ1 => (∃ ds, d = .lst ds ∧ P ds Δ1) ∨ ∃ ns, d = .scr ns ∧ P (ns.map D.int) Δ1
theorem iz_list {tg iter : Expr} {z : ZE} (h : EZ C X iter z) : IZ C X tg iter (ziList z) := by
  obtain ⟨t, h1, h2⟩ := h.ex
  refine ⟨_, pi_list h1, fun S A σ H Γ Δ P R hs hc hz k => h2 S A σ H Γ Δ _ _ hs hc hz fun v d A1 H1 Δ1 e1 c1 r1 p => ?_⟩
  rcases p with ⟨ds, rfl, p⟩ | ⟨ns, rfl, p⟩
  · cases r1 with
    | lst g1 g2 g3 g4 =>
      rename_i a xs
      refine ⟨a, rfl, ⟨xs, SqL.of g1⟩, ?_⟩
      refine k (Itl X.K a) xs.length (fun H => SqL X.K H a xs) (YAt xs) ds A1 H1 Δ1 e1 c1 p g4.length walk_list (fun S2 A2 H2 m => SqL.of (m.keep _ _ g2 g3 g1)) fun S2 A2 H2 Δ2 i x H3 hi m c2 y => ?_
      obtain ⟨rfl, y⟩ := y
      obtain ⟨d, q1, q2⟩ := (RepL.mono m ds g4).getV y
      exact ⟨d, q1, fun _ _ h => h, q2⟩
  · cases r1 with
    | scr g =>
      rename_i a
      refine ⟨a, rfl, ?_, ?_⟩
      · rcases g with ⟨⟨o, g⟩, _⟩ | g
        · exact ⟨_, .inl (.inr ⟨o, g⟩)⟩
        · exact ⟨_, .inr g⟩
      · refine k (Itl X.K a) (ns.map V.int).length (fun H => SqL X.K H a (ns.map V.int)) (YAt (ns.map V.int)) (ns.map D.int) A1 H1 Δ1 e1 c1 p (by rw [List.length_map, List.length_map]) walk_list (fun S2 A2 H2 m => ?_) fun S2 A2 H2 Δ2 i x H3 hi m c2 y => ?_
        · rcases g with ⟨⟨o, g⟩, gA, gS⟩ | g
          · exact .inl (.inr ⟨o, m.keep _ _ gA gS g⟩)
          · exact .inr g
        · obtain ⟨rfl, y⟩ := y
          obtain ⟨d, q1, q2⟩ := (repL_ints (K := X.K) (C := C) (S := S2) (A := A2) (H := H3) ns).getV y
          exact ⟨d, q1, fun _ _ h => h, q2⟩
/-- a tuple -/
def ziTup (z : ZE) : ZI := fun Γ Δ P => z Γ Δ fun d Δ1 => ∃ ds, d = .tup ds ∧ P ds Δ1
theorem iz_tup {tg iter : Expr} {z : ZE} (h : EZ C X iter z) : IZ C X tg iter (ziTup z) := by
  obtain ⟨t, h1, h2⟩ := h.ex
  refine ⟨_, pi_tup h1, fun S A σ H Γ Δ P R hs hc hz k => h2 S A σ H Γ Δ _ _ hs hc hz fun v d A1 H1 Δ1 e1 c1 r1 p => ?_⟩
  obtain ⟨ds, rfl, p⟩ := p
  cases r1 with
  | tup g1 g2 g3 g4 =>
    rename_i a xs
    refine ⟨a, rfl, ⟨xs, SqT.of g1⟩, ?_⟩
    refine k (Itt X.K a) xs.length (fun H => SqT X.K H a xs) (YAt xs) ds A1 H1 Δ1 e1 c1 p g4.length walk_tup (fun S2 A2 H2 m => SqT.of (m.keep _ _ g2 g3 g1)) fun S2 A2 H2 Δ2 i x H3 hi m c2 y => ?_
    obtain ⟨rfl, y⟩ := y
    obtain ⟨d, q1, q2⟩ := (RepL.mono m ds g4).getV y
    exact ⟨d, q1, fun _ _ h => h, q2⟩
/-- lo, lo + 1, .. below hi -/
def rangeD (lo hi : Int) : List D := (List.range (hi - lo).toNat).map fun (i : Nat) => D.int (lo + ((i : Nat) : Int))
theorem rangeD_len (lo hi : Int) : (rangeD lo hi).length = (hi - lo).toNat := by unfold rangeD; rw [List.length_map, List.length_range]
def ziR1 (z : ZA) : ZI := fun Γ Δ P => z Γ Δ fun ds Δ1 => ∃ n, ds = [.int n] ∧ -(2 ^ 62) ≤ n ∧ n < 2 ^ 62 ∧ P (rangeD 0 n) Δ1
def ziR2 (z : ZA) : ZI := fun Γ Δ P => z Γ Δ fun ds Δ1 => ∃ a b, ds = [.int a, .int b] ∧ -(2 ^ 62) ≤ a ∧ a < 2 ^ 62 ∧ -(2 ^ 62) ≤ b ∧ b < 2 ^ 62 ∧ P (rangeD a b) Δ1
theorem range_get {lo hi : Int} {i : Nat} (h : i < (hi - lo).toNat) : (rangeD lo hi)[i]? = some (.int (lo + (i : Int))) := by
  unfold rangeD
  rw [List.getElem?_map, List.getElem?_range h] <;> rfl
theorem ref_range {K : PySem.W.Frag} {S A A1 : List Addr} {H H1 : Hp} {Δ1 : Store} {P : List D → Store → Prop} {R : It → Hp → Prop} {lo hi : Int} (e1 : Ext A H A1 H1) (c1 : Cells K C S A1 H1 Δ1) (p : P (rangeD lo hi) Δ1)
    (k : ∀ (J : It) (n : Nat) (G : Hp → Prop) (Y : Nat → Hp → V → Hp → Prop) (items : List D) (A' : List Addr) (H' : Hp) (Δ' : Store), Ext A H A' H' → Cells K C S A' H' Δ' → P items Δ' → n = items.length → Walk J n G Y →
    (∀ S2 A2 H2, Mo S A' H' S2 A2 H2 → G H2) →
    (∀ S2 A2 H2 Δ2 i x H3, i < n → Mo S A' H' S2 A2 H2 → Cells K C S2 A2 H2 Δ2 → Y i H2 x H3 → ∃ d, items[i]? = some d ∧ (∀ a o, H2 a = some o → H3 a = some o) ∧ Rep K C S2 A2 H3 x d) → R J H') : R (Itr lo (hi - lo).toNat) H1 := by
  refine k (Itr lo (hi - lo).toNat) _ (fun _ => True) _ _ A1 H1 Δ1 e1 c1 p (rangeD_len lo hi).symm walk_range (fun _ _ _ _ => trivial) fun S2 A2 H2 Δ2 i x H3 hi' m c2 y => ?_
  obtain ⟨rfl, rfl⟩ := y
  exact ⟨_, range_get hi', fun _ _ h => h, .int _⟩
theorem iz_r1 {tg a : Expr} {z : ZA} {p pos : Pos} (h : AZ C X [a] z) (hm : X.mg "range" = none) (hg : Gl X "range" := by rfl) (hs : starEach [a] X.env = [(false, eval a X.env)] := by rfl) : IZ C X tg (.Call (.Name "range" p) [a] [] pos) (ziR1 z) := by
  obtain ⟨t, h1, h2⟩ := h.ex
  refine ⟨_, pi_range1 hg hm h1 hs, fun S A σ H Γ Δ P R hs hc hz k => h2 S A σ H Γ Δ _ _ hs hc hz fun vs ds A1 H1 Δ1 e1 c1 r1 p => ?_⟩
  obtain ⟨n, rfl, g1, g2, p⟩ := p
  cases r1 with
  | cons r1 r2 =>
    cases r1
    cases r2
    refine ⟨n, rfl, g1, g2, ?_⟩
    have q := ref_range (R := R) e1 c1 p k
    rw [Int.sub_zero] at q
    exact q
theorem iz_r2 {tg a b : Expr} {z : ZA} {p pos : Pos} (h : AZ C X [a, b] z) (hm : X.mg "range" = none) (hg : Gl X "range" := by rfl) (hs : starEach [a, b] X.env = [(false, eval a X.env), (false, eval b X.env)] := by rfl) (hs2 : starEach [b] X.env = [(false, eval b X.env)] := by rfl) :
    IZ C X tg (.Call (.Name "range" p) [a, b] [] pos) (ziR2 z) := by
  obtain ⟨t, h1, h2⟩ := h.ex
  refine ⟨_, pi_range2 hg hm h1 hs hs2, fun S A σ H Γ Δ P R hs hc hz k => h2 S A σ H Γ Δ _ _ hs hc hz fun vs ds A1 H1 Δ1 e1 c1 r1 p => ?_⟩
  obtain ⟨a, b, rfl, g1, g2, g3, g4, p⟩ := p
  cases r1 with
  | cons r1 r2 =>
    cases r1
    cases r2 with
    | cons r2 r3 =>
      cases r2
      cases r3
      exact ⟨a, b, rfl, ⟨g1, g2, g3, g4⟩, ref_range (R := R) e1 c1 p k⟩

/-! ### for -/
def loopZ (body : D → ZS) (Z : ZEnds) : List D → Env → Store → Prop
  | [], Γ, Δ => Z.nx Γ Δ
  | x :: xs, Γ, Δ => body x { Z with nx := loopZ body Z xs, ct := loopZ body Z xs, bk := Z.nx } Γ Δ
def zFor (zi : ZI) (g : ZG) (zs : ZS) : ZS := fun Z Γ Δ => zi Γ Δ fun items Δ1 => loopZ (fun x Z' Γ' Δ' => g x Γ' Δ' fun Γ2 Δ2 => zs Z' Γ2 Δ2) Z items Γ Δ1
theorem sz_for {tg iter : Expr} {body : List Stmt} {zi : ZI} {g : TG} {zg : ZG} {zb : ZS} (hi : IZ C X tg iter zi) (hg : GZ C X tg g zg) (hb : SZs C X body zb) (hp : PassesOwn (model X.prog X.w) X.A X.env X.xe := by exact PassesOwn.never) (hc : X.calm = true := by rfl)
    (hs : ∀ x, foldedSetIterable iter X.env x = pure x := by intro _; rfl) : SZ C X (.For tg iter body [] pos) (zFor zi zg zb) := by
  obtain ⟨wi, i1, i2⟩ := hi.ex
  obtain ⟨tb, b1, b2⟩ := hb.ex
  refine ⟨_, ps_for hp hc i1 hg.pg b1 hs, fun S A σ H Γ Δ Z N hs hc hz k => i2 S A σ H Γ Δ _ _ hs hc hz fun J n G Y items A1 H1 Δ1 e1 c1 p hn w hG hY => ?_⟩
  refine for_it w (fun i σ2 H2 => ∃ A2 Γ2 Δ2, Ext A1 H1 A2 H2 ∧ Slots X.K C S A2 H2 σ2 Γ2 ∧ Cells X.K C S A2 H2 Δ2 ∧ loopZ (fun x Z' Γ' Δ' => zg x Γ' Δ' fun Γ2 Δ2 => zb Z' Γ2 Δ2) Z (items.drop i) Γ2 Δ2)
    ⟨A1, Γ, Δ1, Ext.refl _ _, hs.ext e1, c1, p⟩ (fun i σ2 H2 _ ⟨A2, Γ2, Δ2, e2, _, _, _⟩ => hG S A2 H2 e2.mo) ?_ ?_
  · rintro i x σ2 H2 H3 hi ⟨A2, Γ2, Δ2, e2, s2, c2, q⟩ y
    obtain ⟨d, q1, q2, q3⟩ := hY S A2 H2 Δ2 i x H3 hi e2.mo c2 y
    have hd : items.drop i = d :: items.drop (i + 1) := by
      obtain ⟨hl, q⟩ := List.getElem?_eq_some_iff.mp q1
      rw [← q]
      exact List.drop_eq_getElem_cons hl
    rw [hd] at q
    have e3 : Ext A2 H2 A2 H3 := Ext.kept q2
    refine hg.ref S A2 σ2 H3 Γ2 Δ2 x d _ _ (s2.ext e3) (c2.kept q2) q3 q fun σ4 A4 H4 Γ4 Δ4 e4 s4 c4 p4 => ?_
    have e14 := (e2.trans e3).trans e4
    refine b2 S A4 σ4 H4 Γ4 Δ4 _ _ s4 c4 p4 ⟨?_, ?_, ?_, ?_⟩
    · exact fun σ5 A5 H5 Γ5 Δ5 e5 s5 c5 p5 => ⟨A5, Γ5, Δ5, e14.trans e5, s5, c5, p5⟩
    · exact k.nx.ext (e1.trans e14)
    · exact fun σ5 A5 H5 Γ5 Δ5 e5 s5 c5 p5 => ⟨A5, Γ5, Δ5, e14.trans e5, s5, c5, p5⟩
    · exact fun v d A5 H5 Δ5 e5 c5 r5 p5 => k.rt v d A5 H5 Δ5 ((e1.trans e14).trans e5) c5 r5 p5
  · rintro σ2 H2 ⟨A2, Γ2, Δ2, e2, s2, c2, q⟩
    rw [hn, List.drop_length] at q
    exact k.nx σ2 A2 H2 Γ2 Δ2 (e1.trans e2) s2 c2 q
end
end Z

/-! Z4: comprehensions, zip, enumerate, calls of defs and built-ins over data. -/
namespace Z
open PySem L2

/-! ### slots forgotten -/
def wipeZ (Γ : Env) : List Nat → Env
  | [] => Γ
  | v :: vs => (wipeZ Γ vs).set v none
theorem wipeZ_length (Γ : Env) : ∀ vs : List Nat, (wipeZ Γ vs).length = Γ.length
  | [] => rfl
  | v :: vs => by unfold wipeZ; rw [List.length_set, wipeZ_length Γ vs]
theorem wipeZ_some {Γ : Env} {i : Nat} {d : D} : ∀ {vs : List Nat}, (wipeZ Γ vs)[i]? = some (some d) → Γ[i]? = some (some d) ∧ i ∉ vs
  | [], h => ⟨h, by simp⟩
  | v :: vs, h => by
    unfold wipeZ at h
    by_cases e : i = v
    · subst e
      by_cases hl : i < (wipeZ Γ vs).length
      · rw [List.getElem?_set_self hl] at h; cases h
      · rw [List.getElem?_eq_none (by rw [List.length_set]; omega)] at h; cases h
    · rw [List.getElem?_set_ne (Ne.symm e)] at h
      obtain ⟨h1, h2⟩ := wipeZ_some h
      exact ⟨h1, by simp [e, h2]⟩
theorem wipe_get {σ : L2.St} {i : Nat} : ∀ {vs : List Nat}, i ∉ vs → (wipe σ vs)[i]? = σ[i]?
  | [], _ => rfl
  | v :: vs, h => by
    unfold wipe
    have h1 : i ≠ v := fun e => h (by simp [e])
    rw [List.getElem?_set_ne (Ne.symm h1)]
    exact wipe_get fun q => h (List.mem_cons_of_mem _ q)
theorem wipe_in {σ : L2.St} {i : Nat} : ∀ {vs : List Nat}, i ∈ vs → (wipe σ vs)[i]? = if i < σ.length then some none else none
  | v :: vs, h => by
    unfold wipe
    by_cases e : i = v
    · subst e
      by_cases hl : i < σ.length
      · rw [List.getElem?_set_self (by rw [wipe_length]; exact hl), if_pos hl]
      · rw [List.getElem?_eq_none (by rw [List.length_set, wipe_length]; omega), if_neg hl]
    · rw [List.getElem?_set_ne (Ne.symm e)]
      exact wipe_in ((List.mem_cons.mp h).resolve_left e)
theorem wipe_ext {σ τ : L2.St} {vs : List Nat} (hl : σ.length = τ.length) (h : ∀ i, i ∉ vs → σ[i]? = τ[i]?) : wipe σ vs = wipe τ vs := by
  refine List.ext_getElem? fun i => ?_
  by_cases hi : i ∈ vs
  · rw [wipe_in hi, wipe_in hi, hl]
  · rw [wipe_get hi, wipe_get hi]; exact h i hi
theorem wipe_wipe (σ : L2.St) (vs : List Nat) : wipe (wipe σ vs) vs = wipe σ vs := wipe_ext (wipe_length σ vs) fun i hi => wipe_get hi
theorem wipe_set {σ : L2.St} {i : Nat} {x : Option V} {vs : List Nat} (hi : i ∈ vs) : wipe (σ.set i x) vs = wipe σ vs :=
  wipe_ext (by rw [List.length_set]) fun j hj => by rw [List.getElem?_set_ne (fun e => hj (by rw [← e]; exact hi))]
theorem Slots.wipe {K : PySem.W.Frag} {C : CI} {S A : List Addr} {H : Hp} {σ : L2.St} {Γ : Env} (h : Slots K C S A H σ Γ) (vs : List Nat) : Slots K C S A H (L2.wipe σ vs) (wipeZ Γ vs) := by
  refine ⟨by rw [wipe_length, wipeZ_length]; exact h.len, fun i d q => ?_⟩
  obtain ⟨h1, h2⟩ := wipeZ_some q
  obtain ⟨v, g1, g2⟩ := h.at_ i d h1
  exact ⟨v, by rw [wipe_get h2]; exact g1, g2⟩
/-- a target that stores into the slots vs alone -/
def Own (g : TG) (vs : List Nat) : Prop := ∀ x σ H Q, g x σ H Q → g x σ H fun σ2 H2 => wipe σ2 vs = wipe σ vs ∧ Q σ2 H2
def Owns (g : TGs) (vs : List Nat) : Prop := ∀ xs σ H Q, g xs σ H Q → g xs σ H fun σ2 H2 => wipe σ2 vs = wipe σ vs ∧ Q σ2 H2
theorem own_name {i : Nat} {vs : List Nat} (h : i ∈ vs) : Own (gName i) vs := fun _ _ _ _ q => ⟨wipe_set h, q⟩
theorem owns_nil {vs : List Nat} : Owns gNil vs := fun _ _ _ _ q => ⟨q.1, rfl, q.2⟩
theorem gName_eq {i : Nat} {x : V} {σ : L2.St} {H : Hp} {Q : L2.St → Hp → Prop} : gName i x σ H Q = Q (σ.set i (some x)) H := rfl
theorem owns_cons {i : Nat} {gs : TGs} {vs : List Nat} (h : i ∈ vs) (hs : Owns gs vs) : Owns (gCons (gName i) gs) vs := fun xs σ H Q q => by
  obtain ⟨v, r, e, q⟩ := q
  refine ⟨v, r, e, ?_⟩
  have q' : gs r (σ.set i (some v)) H Q := q
  have := hs _ _ _ _ q'
  rw [wipe_set h] at this
  exact this
theorem own_tup {K : PySem.W.Frag} {n : Nat} {gs : TGs} {vs : List Nat} (h : Owns gs vs) : Own (gTup K n gs) vs := fun x σ H Q q => by
  obtain ⟨a, xs, e, h1, h2, q⟩ := q
  exact ⟨a, xs, e, h1, h2, h _ _ _ _ q⟩

/-! ### a list comprehension -/
abbrev ZTs := ZT
def zYes : ZT := fun _ Δ P => P true Δ
structure TsZ (C : CI) (X : Cx) (es : List Expr) (z : ZT) : Prop where
  ex : ∃ tt, PTs X es tt ∧ RefT X.K C tt z
def compZ (zg : ZG) (zt : ZT) (ze : ZE) (Γ0 : Env) (P : D → Store → Prop) : List D → List D → Store → Prop
  | [], acc, Δ => P (.lst acc) Δ
  | x :: xs, acc, Δ => zg x Γ0 Δ fun Γ2 Δ2 => zt Γ2 Δ2 fun b Δ3 => (b = true → ze Γ2 Δ3 fun y Δ4 => acc.length < 100000 ∧ compZ zg zt ze Γ0 P xs (acc ++ [y]) Δ4) ∧ (b = false → compZ zg zt ze Γ0 P xs acc Δ3)
def zLc (zi : ZI) (zg : ZG) (zt : ZT) (ze : ZE) (vs : List Nat) : ZE := fun Γ Δ P => zi Γ Δ fun items Δ1 => compZ zg zt ze (wipeZ Γ vs) P items [] Δ1
theorem lt_line {n : Nat} (h : n < 100000) : n < sizeLine := Nat.lt_of_lt_of_le h (by decide)
theorem ref_lc {K : PySem.W.Frag} {C : CI} {wi : TI} {g : TG} {tt : TT} {te : TE} {vs : List Nat} {zi : ZI} {zg : ZG} {zt : ZT} {ze : ZE} (hi : RefI K C wi zi) (hg : RefG K C g zg) (ho : Own g vs) (ht : RefT K C tt zt) (he : RefE K C te ze) :
    RefE K C (tLc wi g tt te vs) (zLc zi zg zt ze vs) := fun S A σ H Γ Δ P Q hs hc hz k => hi S A σ H Γ Δ _ _ hs hc hz fun J n G Y items A1 H1 Δ1 e1 c1 p hn w hG hY q hq => by
  have s1 := hs.ext e1
  -- the list at q is set aside
  have mo0 : Mo S A1 H1 (q :: S) A1 (upd H1 q (.lst [])) := ⟨⟨[], by simp, by simp⟩, fun b hb => by
    rcases List.mem_cons.mp hb with rfl | hb
    · exact .inr hq
    · exact .inl hb, fun a o _ _ h => by rw [upd_ne (ne_of_none h hq)]; exact h⟩
  have cells0 : Cells K C (q :: S) A1 (upd H1 q (.lst [])) Δ1 := by
    refine ⟨c1.len, c1.nd, fun a ha hb => ?_, fun a ha h => ?_, fun n a o h1 h2 => (c1.at_ n a o h1 h2).mono mo0 fun u h => by rw [upd_ne (ne_of_none h hq)]; exact h⟩
    · rcases List.mem_cons.mp hb with rfl | hb
      · exact c1.fresh hq ha
      · exact c1.dj a ha hb
    · rcases List.mem_cons.mp ha with rfl | ha
      · rw [upd_same] at h; cases h
      · exact c1.as a ha ((Ext.new (A := A1) hq).trk a h)
  refine lc_it w (fun i H2 => ∃ A2 Δ2 acc accV, Ext A1 H1 A2 H2 ∧ Mo S A1 H1 (q :: S) A2 H2 ∧ Cells K C (q :: S) A2 H2 Δ2 ∧ H2 q = some (.lst accV) ∧ RepL K C (q :: S) A2 H2 accV acc ∧ compZ zg zt ze (wipeZ Γ vs) P (items.drop i) acc Δ2)
    ⟨A1, Δ1, [], [], Ext.new hq, mo0, cells0, upd_same, .nil, p⟩ (fun i H2 _ ⟨A2, Δ2, acc, accV, _, m, _⟩ => hG _ A2 H2 m) ?_ ?_
  · rintro i x H2 H3 hi2 ⟨A2, Δ2, acc, accV, e2, m2, c2, hqv, hacc, hp⟩ y
    obtain ⟨d, q1, q2, q3⟩ := hY _ A2 H2 Δ2 i x H3 hi2 m2 c2 y
    have hd : items.drop i = d :: items.drop (i + 1) := by
      obtain ⟨hl, q⟩ := List.getElem?_eq_some_iff.mp q1
      rw [← q]
      exact List.drop_eq_getElem_cons hl
    rw [hd] at hp
    have e3 : Ext A2 H2 A2 H3 := Ext.kept q2
    have s3 : Slots K C (q :: S) A2 H3 (wipe σ vs) (wipeZ Γ vs) := ((s1.mono m2).ext e3).wipe vs
    have fin : g x (wipe σ vs) H3 fun σ2 H4 => wipe σ2 vs = wipe (wipe σ vs) vs ∧ tt σ2 H4 fun b H5 =>
        if b = true then te σ2 H5 fun y H6 => ∃ acc, H6 q = some (.lst acc) ∧ acc.length < sizeLine ∧ ∃ A2 Δ2 acc' accV, Ext A1 H1 A2 (upd H6 q (.lst (acc ++ [y]))) ∧ Mo S A1 H1 (q :: S) A2 (upd H6 q (.lst (acc ++ [y]))) ∧ Cells K C (q :: S) A2 (upd H6 q (.lst (acc ++ [y]))) Δ2 ∧
          (upd H6 q (.lst (acc ++ [y]))) q = some (.lst accV) ∧ RepL K C (q :: S) A2 (upd H6 q (.lst (acc ++ [y]))) accV acc' ∧ compZ zg zt ze (wipeZ Γ vs) P (items.drop (i + 1)) acc' Δ2
        else ∃ A2 Δ2 acc accV, Ext A1 H1 A2 H5 ∧ Mo S A1 H1 (q :: S) A2 H5 ∧ Cells K C (q :: S) A2 H5 Δ2 ∧ H5 q = some (.lst accV) ∧ RepL K C (q :: S) A2 H5 accV acc ∧ compZ zg zt ze (wipeZ Γ vs) P (items.drop (i + 1)) acc Δ2 := by
      refine ho _ _ _ _ (hg (q :: S) A2 (wipe σ vs) H3 (wipeZ Γ vs) Δ2 x d _ _ s3 (c2.kept q2) q3 hp fun σ4 A4 H4 Γ4 Δ4 e4 s4 c4 p4 => ?_)
      refine ht (q :: S) A4 σ4 H4 Γ4 Δ4 _ _ s4 c4 p4 fun b A5 H5 Δ5 e5 c5 p5 => ?_
      have e25 := (e3.trans e4).trans e5
      have e15 := e2.trans e25
      have hq2 : q ∉ A2 := fun h => c2.dj q h List.mem_cons_self
      have hq5 : H5 q = some (.lst accV) := e25.keep q _ hq2 hqv
      have m5 : Mo S A1 H1 (q :: S) A5 H5 := ⟨e15.pre, m2.sub, fun a o h1 _ h3 => e15.keep a o h1 h3⟩
      cases b with
      | false => exact iteF ⟨A5, Δ5, acc, accV, e15, m5, c5, hq5, hacc.ext e25, p5.2 rfl⟩
      | true =>
        refine iteT (he (q :: S) A5 σ4 H5 Γ4 Δ5 _ _ (s4.ext e5) c5 (p5.1 rfl) fun y dy A6 H6 Δ6 e6 c6 r6 p6 => ?_)
        have e16 := e15.trans e6
        have hq5' : q ∉ A5 := fun h => c5.dj q h List.mem_cons_self
        have hq6' : q ∉ A6 := fun h => c6.dj q h List.mem_cons_self
        have hq6 : H6 q = some (.lst accV) := e6.keep q _ hq5' hq5
        have hacc6 := (hacc.ext e25).ext e6
        have mo7 : Mo (q :: S) A6 H6 (q :: S) A6 (upd H6 q (.lst (accV ++ [y]))) := ⟨⟨[], by simp, by simp⟩, fun _ h => .inl h, fun a o _ h2 h3 => by
          rw [upd_ne (fun h => h2 (by rw [h]; exact List.mem_cons_self))]; exact h3⟩
        have nq : ∀ a o, H1 a = some o → a ≠ q := fun a o h => ne_of_none h hq
        refine ⟨accV, hq6, lt_line (by rw [hacc6.length]; exact p6.1), A6, Δ6, acc ++ [dy], accV ++ [y], ?_, ?_, ?_, upd_same, ?_, p6.2⟩
        · exact ⟨e16.pre, fun a o h1 h2 => by rw [upd_ne (nq a o h2)]; exact e16.keep a o h1 h2, fun a h => by
            by_cases hb : a = q
            · subst hb; exact hq
            · rw [upd_ne hb] at h; exact e16.trk a h⟩
        · exact ⟨e16.pre, m2.sub, fun a o h1 _ h3 => by rw [upd_ne (nq a o h3)]; exact e16.keep a o h1 h3⟩
        · refine ⟨c6.len, c6.nd, c6.dj, fun a ha h => ?_, fun n a o h1 h2 => (c6.at_ n a o h1 h2).mono mo7 fun u h => ?_⟩
          · by_cases hb : a = q
            · subst hb; rw [upd_same] at h; cases h
            · rw [upd_ne hb] at h; exact c6.as a ha h
          · rw [upd_ne (fun hb => hq6' (by rw [← hb]; exact List.mem_of_getElem? h1))]; exact h
        · exact (RepL.append hacc6 (.cons r6 .nil)).mono mo7 _
    rw [wipe_wipe] at fin
    exact fin
  · rintro H2 ⟨A2, Δ2, acc, accV, e2, m2, c2, hqv, hacc, hp⟩
    rw [hn, List.drop_length] at hp
    have hq2 : q ∉ A2 := fun h => c2.dj q h List.mem_cons_self
    have mo8 : Mo (q :: S) A2 H2 S A2 H2 := ⟨⟨[], by simp, by simp⟩, fun b hb => .inl (List.mem_cons_of_mem _ hb), fun _ _ _ _ h => h⟩
    refine k _ _ A2 H2 Δ2 (e1.trans e2) ⟨c2.len, c2.nd, fun a ha hb => c2.dj a ha (List.mem_cons_of_mem _ hb), fun a ha => c2.as a (List.mem_cons_of_mem _ ha), fun n a o h1 h2 => (c2.at_ n a o h1 h2).mono mo8 fun _ h => h⟩
      (.lst hqv hq2 (c1.aside hq) (RepL.mono mo8 _ hacc)) hp
section
variable {C : CI} {X : Cx}
theorem tsz_nil : TsZ C X [] zYes := ⟨_, pts_nil, fun S A σ H Γ Δ P Q hs hc hz k => k true A H Δ (Ext.refl _ _) hc hz⟩
theorem tsz_one {c : Expr} {z : ZT} (h : TZ C X c z) : TsZ C X [c] z := by
  obtain ⟨t, h1, h2⟩ := h.ex
  exact ⟨t, pts_one h1, h2⟩
/-- what stands in a comprehension's block, whatever the block's own frame is -/
structure BlkZ (C : CI) (X : Cx) (scope : Scope) (tg : Expr) (ifs : List Expr) (elt : Expr) (g : TG) (zg : ZG) (zt : ZT) (ze : ZE) : Prop where
  ex : ∃ tt te, (∀ (s : Shared) (H : Hp) (Ca : Addr) (cl : List (Str × Addr)) (fp : List Addr), PG (X.blk s H scope (compEnvC scope cl Ca X.env) fp) tg g ∧ PTs (X.blk s H scope (compEnvC scope cl Ca X.env) fp) ifs tt ∧ PE (X.blk s H scope (compEnvC scope cl Ca X.env) fp) elt te) ∧
    RefG X.K C g zg ∧ RefT X.K C tt zt ∧ RefE X.K C te ze
theorem ez_lc {elt tg iter : Expr} {ifs : List Expr} {scope : Scope} {own : List (Str × Nat)} {pos : Pos} {zi : ZI} {g : TG} {zg : ZG} {zt : ZT} {ze : ZE} (hN : X.N.Nodup) (hi : IZ C X tg iter zi) (ok : BlkOk X.N X.env.scope scope own) (ho : Own g (own.map (·.2))) (hb : BlkZ C X scope tg ifs elt g zg zt ze)
    (hc : X.calm = true := by rfl) (hs : ∀ x, foldedSetIterable iter X.env x = pure x := by intro _; rfl) : EZ C X (.ListComp elt [⟨tg, iter, ifs, 0⟩] scope pos) (zLc zi zg zt ze (own.map (·.2))) := by
  obtain ⟨wi, i1, i2⟩ := hi.ex
  obtain ⟨tt, te, b1, b2, b3, b4⟩ := hb.ex
  exact ⟨_, pe_lc hc hN i1 ok (fun s H Ca cl fp => (b1 s H Ca cl fp).1) (fun s H Ca cl fp => (b1 s H Ca cl fp).2.1) (fun s H Ca cl fp => (b1 s H Ca cl fp).2.2) hs, ref_lc i2 b2 ho b3 b4⟩
theorem sz_setLc {i : Nat} {y : Str} {py : Pos} {elt tg iter : Expr} {ifs : List Expr} {scope : Scope} {own : List (Str × Nat)} {pos spos : Pos} {zi : ZI} {g : TG} {zg : ZG} {zt : ZT} {ze : ZE} (hN : X.N.Nodup) (hy : X.N[i]? = some y) (hyl : X.env.scope.names.lookup y = some .local)
    (hsw : swapsWith (.ListComp elt [⟨tg, iter, ifs, 0⟩] scope pos) (some (.Name y py)) spos.line X.env = pure true) (hi : IZ C X tg iter zi) (ok : BlkOk X.N X.env.scope scope own) (ho : Own g (own.map (·.2))) (hb : BlkZ C X scope tg ifs elt g zg zt ze)
    (hc : X.calm = true := by rfl) (hs : ∀ x, foldedSetIterable iter X.env x = pure x := by intro _; rfl) : SZ C X (.Assign [.Name y py] (.ListComp elt [⟨tg, iter, ifs, 0⟩] scope pos) spos) (zAsg (zLc zi zg zt ze (own.map (·.2))) (zgName i)) := by
  obtain ⟨wi, i1, i2⟩ := hi.ex
  obtain ⟨tt, te, b1, b2, b3, b4⟩ := hb.ex
  exact ⟨_, ps_setLc hc hN hy hyl hsw i1 ok (fun s H Ca cl fp => (b1 s H Ca cl fp).1) (fun s H Ca cl fp => (b1 s H Ca cl fp).2.1) (fun s H Ca cl fp => (b1 s H Ca cl fp).2.2) hs, ref_asg (ref_lc i2 b2 ho b3 b4) (gz_name (C := C) (pos := py) hN hy (.inl hyl) (.inr hyl)).ref⟩

/-! ### calls of defs -/
/-- a def's promise over data: W says of the arguments, the store and a wish what must hold ahead -/
def SpZ (K : PySem.W.Frag) (C : CI) (W : ZRC) : Sp := fun vs H Q _ => ∃ S A Δ ds P, RepL K C S A H vs ds ∧ Cells K C S A H Δ ∧ W ds Δ P ∧ ∀ v d A' H' Δ', Ext A H A' H' → Cells K C S A' H' Δ' → Rep K C S A' H' v d → P d Δ' → Q v H'
def zCall (W : ZRC) (dds : List D) (za : ZA) : ZE := fun Γ Δ P => za Γ Δ fun ds Δ1 => W (ds ++ dds) Δ1 P
variable {e : Expr} {es : List Expr} {za : ZA} {pos p : Pos} {x : Str} {k : Nat} {f : Addr} {fd : FuncData} {ps : List Str} {W : ZRC} {dvs : List V} {dds : List D} {ds : List Value}
theorem ref_call {K : PySem.W.Frag} {ta : TA} {E : XK} (ha : RefA K C ta za) (hdd : ∀ S A H, RepL K C S A H dvs dds) : RefE K C (tCall (SpZ K C W) dvs E ta) (zCall W dds za) := fun S A σ H Γ Δ P Q hs hc hz k =>
  ha S A σ H Γ Δ _ _ hs hc hz fun vs ds A1 H1 Δ1 e1 c1 r1 p => ⟨S, A1, Δ1, ds ++ dds, P, r1.append (hdd _ _ _), c1, p, fun v d A' H' Δ' e2 c2 r2 p2 => k v d A' H' Δ' (e1.trans e2) c2 r2 p2⟩
theorem ez_call (F : FnOk X.prog X.w X.K X.mg X.base CX0 k f fd ps (SpZ X.K C W)) (hr : Room k X.A) (hm : X.mg x = some (.ref f)) (hk : PySem.W.keepIn X.K (.ref f) = true) (hb : Binds X.K fd ps ds) (hd : Vals dvs ds) (hdd : ∀ S A H, RepL X.K C S A H dvs dds)
    (ha : AZ C X (e :: es) za) (hg : Gl X x := by rfl) (hdb : (x == ("__debug__" : Str)) = false := by decide) (he : starEach (e :: es) X.env = (false, eval e X.env) :: starEach es X.env := by rfl) (hpl : (backTo pos (starEach es X.env)).any (·.1) = false := by rfl) :
    EZ C X (.Call (.Name x p) (e :: es) [] pos) (zCall W dds za) := by
  obtain ⟨t, a1, a2⟩ := ha.ex
  exact ⟨_, pe_call F hr hg hm hk hb hd pass0 a1 hdb he hpl, ref_call a2 hdd⟩
/-- without defaults -/
theorem ez_calln (F : FnOk X.prog X.w X.K X.mg X.base CX0 k f fd ps (SpZ X.K C W)) (hr : Room k X.A) (hm : X.mg x = some (.ref f)) (hk : PySem.W.keepIn X.K (.ref f) = true) (hb : Binds X.K fd ps [])
    (ha : AZ C X (e :: es) za) (hg : Gl X x := by rfl) (hdb : (x == ("__debug__" : Str)) = false := by decide) (he : starEach (e :: es) X.env = (false, eval e X.env) :: starEach es X.env := by rfl) (hpl : (backTo pos (starEach es X.env)).any (·.1) = false := by rfl) :
    EZ C X (.Call (.Name x p) (e :: es) [] pos) (zCall W [] za) := ez_call F hr hm hk hb .nil (fun _ _ _ => .nil) ha hg hdb he hpl
/-- a def's body keeps its promise -/
def startZ (N : List Str) (ds : List D) : Env := ds.map some ++ List.replicate (N.length - ds.length) none
theorem slots_start {K : PySem.W.Frag} {S A : List Addr} {H : Hp} {N : List Str} {vs : List V} {ds : List D} (r : RepL K C S A H vs ds) : Slots K C S A H (L2.start N vs) (startZ N ds) := by
  refine ⟨?_, fun i d q => ?_⟩
  · unfold L2.start startZ
    rw [List.length_append, List.length_append, List.length_map, List.length_map, List.length_replicate, List.length_replicate, r.length]
  · unfold startZ at q
    unfold L2.start
    by_cases hi : i < ds.length
    · rw [List.getElem?_append_left (by rw [List.length_map]; exact hi), List.getElem?_map] at q
      cases e : ds[i]? with
      | none => rw [e] at q; cases q
      | some d' =>
        rw [e] at q
        cases q
        obtain ⟨v, h1, h2⟩ := r.get e
        exact ⟨v, by rw [List.getElem?_append_left (by rw [List.length_map, r.length]; exact hi), List.getElem?_map, h1] <;> rfl, h2⟩
    · rw [List.getElem?_append_right (by rw [List.length_map]; omega)] at q
      have := List.mem_of_getElem? q
      simp at this
theorem fnz_ok {P : Program} {w : World} {K : PySem.W.Frag} {mg : Str → Option Value} {base : Heap} {y qual : Str} {st : Stmt} {N : List Str} (F : Fun K y qual st f fd) (Sc : FnScope N ps (defScope st)) (len : ∀ ds Δ P, W ds Δ P → ds.length = ps.length)
    (body : ∀ (cdv : Value) (A : Around) (outer : List PySem.Env) (s : Shared) (H : Hp) (E : XK), Room k (A.deeper (PyProof.Rows.envOfC qual (defScope st) s.heap.objs.size f cdv)) →
      ∃ z : ZS, SZs C (cxOf CX0 P w K mg base N qual (defScope st) f cdv A outer s H E).nox (defBody st) z ∧ ∀ ds Δ P, W ds Δ P → z { nx := fun _ Δ' => P .non Δ', rt := P } (startZ N ds) Δ) : FnOk P w K mg base CX0 (k + 1) f fd ps (SpZ K C W) := by
  refine F.ok Sc (fun vs H Q E h => ?_) (fun cdv A outer s H vs Q E hr h => ?_)
  · obtain ⟨S, A, Δ, ds, P, r, _, hw, _⟩ := h
    rw [r.length]
    exact len ds Δ P hw
  · obtain ⟨S, A', Δ, ds, P', r, hc, hw, kk⟩ := h
    obtain ⟨z, hz, hzz⟩ := body cdv A outer s H E hr
    obtain ⟨ts, h1, h2⟩ := hz.ex
    refine ⟨ts, h1, h2 S A' _ H (startZ N ds) Δ { nx := fun _ Δ' => P' .non Δ', rt := P' } _ (slots_start r) hc (hzz ds Δ P' hw) ⟨?_, ?_, ?_, ?_⟩⟩
    · exact fun σ' A2 H2 Γ2 Δ2 e2 s2 c2 q => kk .non .non A2 H2 Δ2 e2 c2 .non q
    · exact fun σ' A2 H2 Γ2 Δ2 e2 s2 c2 q => q.elim
    · exact fun σ' A2 H2 Γ2 Δ2 e2 s2 c2 q => q.elim
    · exact fun v d A2 H2 Δ2 e2 c2 r2 q => kk v d A2 H2 Δ2 e2 c2 r2 q

/-! ### built-ins -/
structure CallZ (C : CI) (X : Cx) (fv : Value) (z : ZRC) : Prop where
  ex : ∃ r, CallR X fv r ∧ RefC X.K C r z
def zCB (z : ZRC) (za : ZA) : ZE := fun Γ Δ P => za Γ Δ fun ds Δ1 => z ds Δ1 P
theorem ref_cb {K : PySem.W.Frag} {r : List V → Hp → VK → Prop} {z : ZRC} {ta : TA} (hr : RefC K C r z) (ha : RefA K C ta za) : RefE K C (tCB r ta) (zCB z za) := fun S A σ H Γ Δ P Q hs hc hz k =>
  ha S A σ H Γ Δ _ _ hs hc hz fun vs ds A1 H1 Δ1 e1 c1 r1 p => hr S A1 H1 Δ1 vs ds P Q c1 r1 p fun v d A' H' Δ' e2 c2 r2 p2 => k v d A' H' Δ' (e1.trans e2) c2 r2 p2
theorem ez_callB {id : String} {z : ZRC} (hc : CallZ C X (.builtin id) z) (hm : X.mg x = none) (hv : bootBuiltins x = some (.builtin id)) (ha : AZ C X (e :: es) za) (hg : Gl X x := by rfl) (hn : x ≠ "__name__" := by decide) (hdb : (x == ("__debug__" : Str)) = false := by decide)
    (he : starEach (e :: es) X.env = (false, eval e X.env) :: starEach es X.env := by rfl) (hpl : (backTo pos (starEach es X.env)).any (·.1) = false := by rfl) : EZ C X (.Call (.Name x p) (e :: es) [] pos) (zCB z za) := by
  obtain ⟨r, c1, c2⟩ := hc.ex
  obtain ⟨t, a1, a2⟩ := ha.ex
  exact ⟨_, pe_callB c1 hg hm hv a1 hn hdb he hpl, ref_cb c2 a2⟩
theorem ez_callTy {T : String} {z : ZRC} (hc : CallZ C X (.type T) z) (hm : X.mg x = none) (hv : bootBuiltins x = some (.type T)) (ha : AZ C X (e :: es) za) (hg : Gl X x := by rfl) (hn : x ≠ "__name__" := by decide) (hdb : (x == ("__debug__" : Str)) = false := by decide)
    (he : starEach (e :: es) X.env = (false, eval e X.env) :: starEach es X.env := by rfl) (hpl : (backTo pos (starEach es X.env)).any (·.1) = false := by rfl) : EZ C X (.Call (.Name x p) (e :: es) [] pos) (zCB z za) := by
  obtain ⟨r, c1, c2⟩ := hc.ex
  obtain ⟨t, a1, a2⟩ := ha.ex
  exact ⟨_, pe_callTy c1 hg hm hv a1 hn hdb he hpl, ref_cb c2 a2⟩
/-- a module's name for a built-in (gcd) -/
theorem ez_callMod {id : String} {z : ZRC} (hc : CallZ C X (.builtin id) z) (hm : X.mg x = some (.builtin id)) (ha : AZ C X (e :: es) za) (hg : Gl X x := by rfl) (hdb : (x == ("__debug__" : Str)) = false := by decide)
    (he : starEach (e :: es) X.env = (false, eval e X.env) :: starEach es X.env := by rfl) (hpl : (backTo pos (starEach es X.env)).any (·.1) = false := by rfl) : EZ C X (.Call (.Name x p) (e :: es) [] pos) (zCB z za) := by
  obtain ⟨r, c1, c2⟩ := hc.ex
  obtain ⟨t, a1, a2⟩ := ha.ex
  exact ⟨_, pe_callBfun c1 hg hm a1 hdb he hpl, ref_cb c2 a2⟩
def zLen : ZRC := fun ds Δ P => ∃ d es, ds = [d] ∧ seqD Δ d = some es ∧ P (.int (es.length : Int)) Δ
theorem one_rep {K : PySem.W.Frag} {S A : List Addr} {H : Hp} {vs : List V} {d : D} (r : RepL K C S A H vs [d]) : ∃ v, vs = [v] ∧ Rep K C S A H v d := by
  cases r with
  | cons h r => cases r; exact ⟨_, rfl, h⟩
theorem two_rep {K : PySem.W.Frag} {S A : List Addr} {H : Hp} {vs : List V} {d d' : D} (r : RepL K C S A H vs [d, d']) : ∃ v v', vs = [v, v'] ∧ Rep K C S A H v d ∧ Rep K C S A H v' d' := by
  cases r with
  | cons h r => obtain ⟨v', rfl, h'⟩ := one_rep r; exact ⟨_, v', rfl, h, h'⟩
theorem cz_len : CallZ C X (.builtin "len") zLen := ⟨_, call_len_seq, fun S A H Δ xs ds P Q hc r hz k => by
  obtain ⟨d, es, rfl, hd, q⟩ := hz
  obtain ⟨v, rfl, rv⟩ := one_rep r
  obtain ⟨pa, ys, rfl, hq, rr⟩ := Rep.seq hc rv hd
  refine ⟨pa, ys, rfl, hq, k _ _ A H Δ (Ext.refl _ _) hc ?_ q⟩
  rw [rr.length]
  exact .int _⟩
def zSum : ZRC := fun ds Δ P => ∃ (d : D) (ns : List Int), ds = [d] ∧ lstD Δ d = some (ns.map D.int) ∧ P (.int ns.sum) Δ
theorem repL_int {K : PySem.W.Frag} {S A : List Addr} {H : Hp} : ∀ {ns : List Int} {vs : List V}, RepL K C S A H vs (ns.map D.int) → vs = ns.map V.int
  | [], _, r => by cases r; rfl
  | n :: ns, _, r => by
    rw [List.map_cons] at r
    cases r with
    | cons h r => cases h; rw [repL_int r] <;> rfl
theorem repL_bl {K : PySem.W.Frag} {S A : List Addr} {H : Hp} : ∀ {ns : List Bool} {vs : List V}, RepL K C S A H vs (ns.map D.bl) → vs = ns.map V.bl
  | [], _, r => by cases r; rfl
  | n :: ns, _, r => by
    rw [List.map_cons] at r
    cases r with
    | cons h r => cases h; rw [repL_bl r] <;> rfl
theorem cz_sum (hc : X.calm = true := by rfl) : CallZ C X (.builtin "sum") zSum := ⟨_, cr_sum hc, fun S A H Δ xs ds P Q hc r hz k => by
  obtain ⟨d, ns, rfl, hd, q⟩ := hz
  obtain ⟨v, rfl, rv⟩ := one_rep r
  obtain ⟨pa, ys, rfl, hq, rr⟩ := Rep.lst_ hc rv hd
  obtain rfl := repL_int rr
  exact ⟨pa, ns, rfl, SqL.of hq, k _ _ A H Δ (Ext.refl _ _) hc (.int _) q⟩⟩
def zAny : ZRC := fun ds Δ P => ∃ (d : D) (bs : List Bool), ds = [d] ∧ lstD Δ d = some (bs.map D.bl) ∧ P (.bl (bs.any id)) Δ
theorem cz_any (hc : X.calm = true := by rfl) : CallZ C X (.builtin "any") zAny := ⟨_, cr_any hc, fun S A H Δ xs ds P Q hc r hz k => by
  obtain ⟨d, ns, rfl, hd, q⟩ := hz
  obtain ⟨v, rfl, rv⟩ := one_rep r
  obtain ⟨pa, ys, rfl, hq, rr⟩ := Rep.lst_ hc rv hd
  obtain rfl := repL_bl rr
  exact ⟨pa, ns, rfl, SqL.of hq, k _ _ A H Δ (Ext.refl _ _) hc (.bl _) q⟩⟩
def zAll : ZRC := fun ds Δ P => ∃ (d : D) (bs : List Bool), ds = [d] ∧ lstD Δ d = some (bs.map D.bl) ∧ P (.bl (bs.all id)) Δ
theorem cz_all (hc : X.calm = true := by rfl) : CallZ C X (.builtin "all") zAll := ⟨_, cr_all hc, fun S A H Δ xs ds P Q hc r hz k => by
  obtain ⟨d, ns, rfl, hd, q⟩ := hz
  obtain ⟨v, rfl, rv⟩ := one_rep r
  obtain ⟨pa, ys, rfl, hq, rr⟩ := Rep.lst_ hc rv hd
  obtain rfl := repL_bl rr
  exact ⟨pa, ns, rfl, SqL.of hq, k _ _ A H Δ (Ext.refl _ _) hc (.bl _) q⟩⟩
def zAbs : ZRC := fun ds Δ P => ∃ i, ds = [.int i] ∧ P (.int (if i < 0 then -i else i)) Δ
theorem cz_abs : CallZ C X (.builtin "abs") zAbs := ⟨_, call_abs, fun S A H Δ xs ds P Q hc r hz k => by
  obtain ⟨i, rfl, q⟩ := hz
  obtain ⟨v, rfl, rv⟩ := one_rep r
  cases rv
  exact ⟨i, rfl, k _ _ A H Δ (Ext.refl _ _) hc (.int _) q⟩⟩
def zMax2 : ZRC := fun ds Δ P => ∃ i j, ds = [.int i, .int j] ∧ P (.int (if j > i then j else i)) Δ
theorem cz_max2 (hc : X.calm = true := by rfl) : CallZ C X (.builtin "max") zMax2 := ⟨_, call_max2 hc, fun S A H Δ xs ds P Q hc r hz k => by
  obtain ⟨i, j, rfl, q⟩ := hz
  obtain ⟨v, v', rfl, rv, rv'⟩ := two_rep r
  cases rv
  cases rv'
  exact ⟨i, j, rfl, k _ _ A H Δ (Ext.refl _ _) hc (.int _) q⟩⟩
def zMin2 : ZRC := fun ds Δ P => ∃ i j, ds = [.int i, .int j] ∧ P (.int (if j < i then j else i)) Δ
theorem cz_min2 (hc : X.calm = true := by rfl) : CallZ C X (.builtin "min") zMin2 := ⟨_, call_min2 hc, fun S A H Δ xs ds P Q hc r hz k => by
  obtain ⟨i, j, rfl, q⟩ := hz
  obtain ⟨v, v', rfl, rv, rv'⟩ := two_rep r
  cases rv
  cases rv'
  exact ⟨i, j, rfl, k _ _ A H Δ (Ext.refl _ _) hc (.int _) q⟩⟩
def zInt : ZRC := fun ds Δ P => (∃ i, ds = [.int i] ∧ P (.int i) Δ) ∨ ∃ b, ds = [.bl b] ∧ P (.int (if b then 1 else 0)) Δ
theorem cz_int : CallZ C X (.type "int") zInt := ⟨_, call_int1, fun S A H Δ xs ds P Q hc r hz k => by
  rcases hz with ⟨i, rfl, q⟩ | ⟨b, rfl, q⟩
  · obtain ⟨v, rfl, rv⟩ := one_rep r
    cases rv
    exact .inl ⟨i, rfl, k _ _ A H Δ (Ext.refl _ _) hc (.int _) q⟩
  · obtain ⟨v, rfl, rv⟩ := one_rep r
    cases rv
    exact .inr ⟨b, rfl, k _ _ A H Δ (Ext.refl _ _) hc (.int _) q⟩⟩
/-- list(xs): a new list; as a cell -/
def zList : ZRC := fun ds Δ P => ∃ d es, ds = [d] ∧ seqD Δ d = some es ∧ P (.lst es) Δ
def zListC : ZRC := fun ds Δ P => ∃ d es, ds = [d] ∧ seqD Δ d = some es ∧ P (.cell Δ.length) (Δ ++ [.lst es])
theorem cz_list : CallZ C X (.type "list") zList := ⟨_, call_list_of, fun S A H Δ xs ds P Q hc r hz k => by
  obtain ⟨d, es, rfl, hd, q⟩ := hz
  obtain ⟨v, rfl, rv⟩ := one_rep r
  obtain ⟨pa, ys, rfl, hq, rr⟩ := Rep.seq hc rv hd
  refine ⟨pa, ys, rfl, hq, fun l hl => ?_⟩
  exact k _ _ A _ Δ (Ext.new hl) (hc.new hl) (.lst upd_same (hc.fresh hl) (hc.aside hl) (rr.ext (Ext.new hl))) q⟩
theorem cz_listC : CallZ C X (.type "list") zListC := ⟨_, call_list_of, fun S A H Δ xs ds P Q hc r hz k => by
  obtain ⟨d, es, rfl, hd, q⟩ := hz
  obtain ⟨v, rfl, rv⟩ := one_rep r
  obtain ⟨pa, ys, rfl, hq, rr⟩ := Rep.seq hc rv hd
  refine ⟨pa, ys, rfl, hq, fun l hl => ?_⟩
  refine k _ _ (A ++ [l]) _ _ (Ext.newCell hl) (hc.newCell hl rr) (.cell ?_) q
  rw [← hc.len, List.getElem?_append_right (Nat.le_refl _), Nat.sub_self]
  rfl⟩
def zGcd : ZRC := fun ds Δ P => ∃ i j : Int, ds = [.int i, .int j] ∧ P (.int (Int.gcd i j : Nat)) Δ
theorem cz_gcd : CallZ C X (.builtin "math.gcd") zGcd := ⟨_, cr_gcd, fun S A H Δ xs ds P Q hc r hz k => by
  obtain ⟨i, j, rfl, q⟩ := hz
  obtain ⟨v, v', rfl, rv, rv'⟩ := two_rep r
  cases rv
  cases rv'
  exact ⟨i, j, rfl, k _ _ A H Δ (Ext.refl _ _) hc (.int _) q⟩⟩

/-! ### xs.append(e) -/
def zAppend (zo : ZE) (za : ZA) : ZE := fun Γ Δ P => zo Γ Δ fun o Δ1 => (∃ n ds, o = .cell n ∧ Δ1[n]? = some (.lst ds)) ∧ za Γ Δ1 fun as Δ2 => ∃ n ds y, o = .cell n ∧ Δ2[n]? = some (.lst ds) ∧ as = [y] ∧ ds.length < 100000 ∧ P .non (Δ2.set n (.lst (ds ++ [y])))
variable {o : Expr} {zo : ZE} {apos cpos : Pos}
theorem ez_append (ho : EZ C X o zo) (ha : AZ C X (e :: es) za)
    (hbase : attributeBase o "append" X.env (eval o X.env) = eval o X.env := by rfl)
    (hfew : ((backTo cpos (starEach (e :: es) X.env)).all (fun x => !x.1) && (backToKw cpos (keywordEach [] X.env)).all (fun x => x.1.isSome)
      && decide ((e :: es).length + ([] : List Keyword).length + (if ([] : List Keyword).isEmpty then 0 else 1) < 30)) = true := by rfl)
    (hline : (apos.endLine == cpos.line) = true := by rfl) (hs : starEach (e :: es) X.env = (false, eval e X.env) :: starEach es X.env := by rfl) (hplain : (backTo cpos (starEach es X.env)).any (·.1) = false := by rfl) :
    EZ C X (.Call (.Attribute o "append" apos) (e :: es) [] cpos) (zAppend zo za) := by
  obtain ⟨t, o1, o2⟩ := ho.ex
  obtain ⟨u, a1, a2⟩ := ha.ex
  refine ⟨_, pe_bm PySem.F.plainAttrs_list PySem.F.slot_list_append PySem.F.type_list_append mt_append o1 a1 hbase hfew hline hs hplain, fun S A σ H Γ Δ P Q hs hc hz k => o2 S A σ H Γ Δ _ _ hs hc hz fun v d A1 H1 Δ1 e1 c1 r1 p => ?_⟩
  obtain ⟨⟨n, ds, rfl, hd⟩, p⟩ := p
  cases r1 with
  | cell g =>
    obtain ⟨xs, g1, g2⟩ := c1.at_ n _ _ g hd
    refine ⟨.inl ⟨rfl, _, SqL.of g1⟩, a2 S A1 σ H1 Γ Δ1 _ _ (hs.ext e1) c1 p fun vs as A2 H2 Δ2 e2 c2 r2 p2 => ?_⟩
    obtain ⟨n', ds', y, hn, hd', rfl, hl, p2⟩ := p2
    cases hn
    obtain ⟨v, rfl, rv⟩ := one_rep r2
    rename_i pa
    have g' : A2[n]? = some pa := by
      obtain ⟨B, hB, _⟩ := e2.pre
      rw [hB, List.getElem?_append_left (List.getElem?_eq_some_iff.mp g).1]
      exact g
    obtain ⟨xs', g3, g4⟩ := c2.at_ n _ _ g' hd'
    have q := c2.put g' (g4.append (.cons rv .nil))
    exact ⟨_, xs', v, rfl, rfl, g3, lt_line (by rw [g4.length]; exact hl), k _ _ A2 _ _ ((e1.trans e2).trans q.2) q.1 .non p2⟩

/-! ### zip, enumerate -/
def ziZip (za : ZA) : ZI := fun Γ Δ P => za Γ Δ fun ds Δ1 => ∃ xs ys, ds = [.lst xs, .lst ys] ∧ P ((xs.zip ys).map fun q => .tup [q.1, q.2]) Δ1
theorem iz_zip {e e2 : Expr} {tpos : Pos} {elts : List Expr} {kk : Nat} (ha : AZ C X [e, e2] za) (hm : X.mg "zip" = none) (hg : Gl X "zip" := by rfl)
    (hs : starEach [e, e2] X.env = (false, eval e X.env) :: starEach [e2] X.env := by rfl) (hpl : (backTo pos (starEach [e2] X.env)).any (·.1) = false := by rfl) : IZ C X (.Tuple elts kk tpos) (.Call (.Name "zip" p) [e, e2] [] pos) (ziZip za) := by
  obtain ⟨t, a1, a2⟩ := ha.ex
  refine ⟨_, pi_zip hg hm a1 hs hpl, fun S A σ H Γ Δ P R hs hc hz k => a2 S A σ H Γ Δ _ _ hs hc hz fun vs ds A1 H1 Δ1 e1 c1 r1 q => ?_⟩
  obtain ⟨xs, ys, rfl, q⟩ := q
  obtain ⟨v, v', rfl, rv, rv'⟩ := two_rep r1
  cases rv with
  | lst g1 g2 g3 g4 =>
    cases rv' with
    | lst h1 h2 h3 h4 =>
      rename_i a us b ws
      refine ⟨a, b, us, ws, rfl, SqL.of g1, SqL.of h1, ?_⟩
      refine k (Itz X.K a b) (min us.length ws.length) _ _ _ A1 H1 Δ1 e1 c1 q (by rw [List.length_map, List.length_zip, g4.length, h4.length]) (walk_zip rfl) (fun S2 A2 H2 m => ⟨SqL.of (m.keep _ _ g2 g3 g1), SqL.of (m.keep _ _ h2 h3 h1)⟩) fun S2 A2 H2 Δ2 i x H3 hi m c2 y => ?_
      obtain ⟨T, y1, y2, rfl, nT, rfl, f1, f2⟩ := y
      obtain ⟨d1, q1, q2⟩ := (RepL.mono m _ g4).getV f1
      obtain ⟨d2, q3, q4⟩ := (RepL.mono m _ h4).getV f2
      refine ⟨.tup [d1, d2], ?_, fun b o h => by rw [upd_ne (ne_of_none h nT)]; exact h, .tup upd_same (c2.fresh nT) (c2.aside nT) (.cons (q2.ext (Ext.new nT)) (.cons (q4.ext (Ext.new nT)) .nil))⟩
      rw [List.getElem?_map, List.getElem?_zip_eq_some.mpr (show xs[i]? = some (d1, d2).1 ∧ ys[i]? = some (d1, d2).2 from ⟨q1, q3⟩)]
      rfl
def enumD (xs : List D) : List D := xs.zipIdx.map fun q => .tup [.int (q.2 : Nat), q.1]
def ziEnum (za : ZA) : ZI := fun Γ Δ P => za Γ Δ fun ds Δ1 => ∃ xs, ds = [.lst xs] ∧ P (enumD xs) Δ1
theorem iz_enum {e : Expr} {tpos : Pos} {elts : List Expr} {kk : Nat} (ha : AZ C X [e] za) (hm : X.mg "enumerate" = none) (hg : Gl X "enumerate" := by rfl) (hs : starEach [e] X.env = [(false, eval e X.env)] := by rfl) : IZ C X (.Tuple elts kk tpos) (.Call (.Name "enumerate" p) [e] [] pos) (ziEnum za) := by
  obtain ⟨t, a1, a2⟩ := ha.ex
  refine ⟨_, pi_enum hg hm a1 hs, fun S A σ H Γ Δ P R hs hc hz k => a2 S A σ H Γ Δ _ _ hs hc hz fun vs ds A1 H1 Δ1 e1 c1 r1 q => ?_⟩
  obtain ⟨xs, rfl, q⟩ := q
  obtain ⟨v, rfl, rv⟩ := one_rep r1
  cases rv with
  | lst g1 g2 g3 g4 =>
    rename_i a us
    refine ⟨a, us, rfl, SqL.of g1, ?_⟩
    refine k (Ite X.K a) us.length _ _ _ A1 H1 Δ1 e1 c1 q (by unfold enumD; rw [List.length_map, List.length_zipIdx, g4.length]) walk_enum (fun S2 A2 H2 m => SqL.of (m.keep _ _ g2 g3 g1)) fun S2 A2 H2 Δ2 i x H3 hi m c2 y => ?_
    obtain ⟨T, y1, y2, rfl, nT, rfl, f1, f2⟩ := y
    cases f1
    obtain ⟨d2, q3, q4⟩ := (RepL.mono m _ g4).getV f2
    refine ⟨.tup [.int (i : Nat), d2], ?_, fun b o h => by rw [upd_ne (ne_of_none h nT)]; exact h, .tup upd_same (c2.fresh nT) (c2.aside nT) (.cons (.int _) (.cons (q4.ext (Ext.new nT)) .nil))⟩
    unfold enumD
    rw [List.getElem?_map, List.getElem?_zipIdx, q3]
    simp
end
end Z

/-! Z5: own classes over data: attributes, properties, methods, calls of instances, making, ==; isinstance. -/
namespace Z
open PySem L2

/-! ### attributes -/
def fldD (C : CI) (Δ : Store) (c : Nat) (f : Str) : D → Option D
  | .ins c' ds => if c' = c then ((C.nms c).zip ds).lookup f else none
  | .cell n => match Δ[n]? with
    | some (.ins c' fs) => if c' = c then fs.lookup f else none
    | _ => none
  | _ => none
/-- an instance of the class c -/
def insD (Δ : Store) (c : Nat) (x : D) : Prop := (∃ ds, x = .ins c ds) ∨ ∃ n fs, x = .cell n ∧ Δ[n]? = some (.ins c fs)
section
variable {K : PySem.W.Frag} {C : CI} {S A : List Addr} {H : Hp} {Δ : Store}
theorem zip_lookup {f : Str} {d : D} : ∀ {ns : List Str} {xs : List V} {ds : List D}, RepL K C S A H xs ds → (ns.zip ds).lookup f = some d → ∃ v, (ns.zip xs).lookup f = some v ∧ Rep K C S A H v d
  | [], _, _, _, h => by simp at h
  | _ :: _, _, _, .nil, h => by simp at h
  | n :: ns, _, _, .cons h1 r, h => by
    rw [List.zip_cons_cons, List.lookup_cons] at h ⊢
    cases e : f == n with
    | true =>
      rw [e] at h
      cases h
      exact ⟨_, rfl, h1⟩
    | false =>
      rw [e] at h
      exact zip_lookup r h
theorem prs_lookup {f : Str} {d : D} : ∀ {xs : List (Str × V)} {fs : List (Str × D)}, xs.map (·.1) = fs.map (·.1) → RepL K C S A H (xs.map (·.2)) (fs.map (·.2)) → fs.lookup f = some d → ∃ v, xs.lookup f = some v ∧ Rep K C S A H v d
  | [], [], _, _, h => by simp at h
  | [], _ :: _, e, _, _ => by simp at e
  | _ :: _, [], e, _, _ => by simp at e
  | (n, x) :: xs, (m, y) :: fs, e, r, h => by
    rw [List.map_cons, List.map_cons] at e r
    obtain ⟨e1, e2⟩ := List.cons.inj e
    have e1 : n = m := e1
    subst e1
    cases r with
    | cons h1 r =>
      rw [List.lookup_cons] at h ⊢
      cases q : f == n with
      | true =>
        simp only [q] at h ⊢
        cases h
        exact ⟨_, rfl, h1⟩
      | false =>
        simp only [q] at h ⊢
        exact prs_lookup e2 r h
theorem Rep.fld {x : V} {d0 d : D} {c : Nat} {f : Str} (hc : Cells K C S A H Δ) (r : Rep K C S A H x d0) (h : fldD C Δ c f d0 = some d) :
    ∃ a dx fs v, x = .ref a ∧ H a = some (.ins (C.adr c) dx fs) ∧ fs.lookup f = some v ∧ Rep K C S A H v d := by
  cases r with
  | ins h1 h2 h3 h4 h5 =>
    rename_i a dx c' xs ds
    have h : (if c' = c then ((C.nms c).zip ds).lookup f else none) = some d := h
    by_cases e : c' = c
    · subst e
      rw [if_pos rfl] at h
      obtain ⟨v, g1, g2⟩ := zip_lookup h5 h
      exact ⟨_, _, _, v, rfl, h1, g1, g2⟩
    · rw [if_neg e] at h
      cases h
  | cell e =>
    rename_i a n
    unfold fldD at h
    cases q : Δ[n]? with
    | none => simp only [q] at h; cases h
    | some o =>
      cases o with
      | lst _ => simp only [q] at h; cases h
      | dct _ _ => simp only [q] at h; cases h
      | ins c' fs =>
        simp only [q] at h
        by_cases e2 : c' = c
        · subst e2
          rw [if_pos rfl] at h
          obtain ⟨dx, xs, g1, g2, g3⟩ := hc.at_ n a _ e q
          obtain ⟨v, g4, g5⟩ := prs_lookup g2 g3 h
          exact ⟨a, dx, xs, v, rfl, g1, g4, g5⟩
        · rw [if_neg e2] at h
          cases h
  | non => exact nomatch h
  | dct _ _ _ _ _ => exact nomatch h
  | bl b => exact nomatch h
  | int b => exact nomatch h
  | str b => exact nomatch h
  | ty b => exact nomatch h
  | tup _ _ _ _ => exact nomatch h
  | lst _ _ _ _ => exact nomatch h
  | scr _ => exact nomatch h
  | cls _ => exact nomatch h
theorem Rep.inst {x : V} {d0 : D} {c : Nat} (hc : Cells K C S A H Δ) (r : Rep K C S A H x d0) (h : insD Δ c d0) : ∃ a dx fs, x = .ref a ∧ H a = some (.ins (C.adr c) dx fs) := by
  rcases h with ⟨ds, rfl⟩ | ⟨n, fs, rfl, q⟩
  · cases r with
    | ins h1 h2 h3 h4 h5 => exact ⟨_, _, _, rfl, h1⟩
  · cases r with
    | cell e =>
      obtain ⟨dx, xs, g1, _⟩ := hc.at_ n _ _ e q
      exact ⟨_, _, _, rfl, g1⟩
end
def zFld (C : CI) (c : Nat) (f : Str) (z : ZE) : ZE := fun Γ Δ P => z Γ Δ fun x Δ1 => ∃ d, fldD C Δ1 c f x = some d ∧ P d Δ1
/-- a property: its getter's promise -/
def zProp (c : Nat) (W : ZRC) (z : ZE) : ZE := fun Γ Δ P => z Γ Δ fun x Δ1 => insD Δ1 c x ∧ W [x] Δ1 P
section
variable {C : CI} {X : Cx} {e : Expr} {es : List Expr} {ze : ZE} {za : ZA} {pos p : Pos} {x : Str} {k : Nat} {f g : Addr} {fd : FuncData} {ps : List Str} {W : ZRC} {dvs : List V} {dds : List D} {ds : List Value}
theorem ez_fld {c : Nat} {f : Str} (he : EZ C X e ze) (cl : Cls X.K (C.adr c)) (n : NoAttr X.K (C.adr c) f) (hb : attributeBase e f X.env (eval e X.env) = eval e X.env := by rfl) : EZ C X (.Attribute e f pos) (zFld C c f ze) := by
  obtain ⟨t, h1, h2⟩ := he.ex
  refine ⟨_, pe_fld h1 hb, fun S A σ H Γ Δ P Q hs hc hz k => h2 S A σ H Γ Δ _ _ hs hc hz fun v d A1 H1 Δ1 e1 c1 r1 p => ?_⟩
  obtain ⟨d2, hd, p⟩ := p
  obtain ⟨a, dx, fs, w, rfl, g1, g2, g3⟩ := r1.fld c1 hd
  exact ⟨a, _, dx, fs, w, rfl, g1, cl, n, g2, k w d2 A1 H1 Δ1 e1 c1 g3 p⟩
theorem ez_prop {c : Nat} {nm : Str} {pr : Addr} (he : EZ C X e ze) (cl : Cls X.K (C.adr c)) (hp : PropOf X.K (C.adr c) nm pr g) (F : FnOk X.prog X.w X.K X.mg X.base CX0 k g fd ps (SpZ X.K C W)) (hr : Room (k + 1) X.A) (hb : Binds X.K fd ps [])
    (hab : attributeBase e nm X.env (eval e X.env) = eval e X.env := by rfl) : EZ C X (.Attribute e nm pos) (zProp c W ze) := by
  obtain ⟨t, h1, h2⟩ := he.ex
  refine ⟨_, pe_prop h1 cl hp F hr hb .nil (E := E0) (fun _ _ _ _ _ _ _ h => h.elim) hab, fun S A σ H Γ Δ P Q hs hc hz k => h2 S A σ H Γ Δ _ _ hs hc hz fun v d A1 H1 Δ1 e1 c1 r1 p => ?_⟩
  obtain ⟨hi, p⟩ := p
  obtain ⟨a, dx, fs, rfl, g1⟩ := r1.inst c1 hi
  exact ⟨a, dx, fs, rfl, g1, S, A1, Δ1, [d], P, .cons r1 .nil, c1, p, fun v d A' H' Δ' e2 c2 r2 p2 => k v d A' H' Δ' (e1.trans e2) c2 r2 p2⟩
/-- x(e, ..), x an instance of the class c -/
def zCallO (c : Nat) (W : ZRC) (zf : ZE) (za : ZA) : ZE := fun Γ Δ P => zf Γ Δ fun y Δ1 => insD Δ1 c y ∧ za Γ Δ1 fun ds Δ2 => insD Δ2 c y ∧ W (y :: ds) Δ2 P
theorem ez_callO {c : Nat} {fe : Expr} {zf : ZE} (hf : EZ C X fe zf) (co : StX.CallO X.K (C.adr c) g) (F : FnOk X.prog X.w X.K X.mg X.base CX0 k g fd ps (SpZ X.K C W)) (hr : Room k X.A) (hb : Binds X.K fd ps []) (ha : AZ C X (e :: es) za)
    (ht : eval (.Call fe (e :: es) [] pos) X.env = (do callWith pos (← eval fe X.env) [] (backTo pos (starEach (e :: es) X.env)) (backToKw pos (keywordEach [] X.env))) := by rfl)
    (he : starEach (e :: es) X.env = (false, eval e X.env) :: starEach es X.env := by rfl) (hpl : (backTo pos (starEach es X.env)).any (·.1) = false := by rfl) : EZ C X (.Call fe (e :: es) [] pos) (zCallO c W zf za) := by
  obtain ⟨t, f1, f2⟩ := hf.ex
  obtain ⟨u, a1, a2⟩ := ha.ex
  have FR : FnR X.prog X.w X.K X.mg X.base CX0 k g (fun vs H Q E => SpZ X.K C W (vs ++ []) H Q E) := F.raw hb .nil
  refine ⟨_, StX.pe_callO f1 co FR hr (E := E0) pass0 a1 ht he hpl, fun S A σ H Γ Δ P Q hs hc hz k => f2 S A σ H Γ Δ _ _ hs hc hz fun v d A1 H1 Δ1 e1 c1 r1 p => ?_⟩
  obtain ⟨hi0, p⟩ := p
  have hv : ∃ a, v = .ref a := by
    obtain ⟨a, _, _, ea, _⟩ := r1.inst c1 hi0
    exact ⟨a, ea⟩
  obtain ⟨a, rfl⟩ := hv
  refine ⟨a, rfl, a2 S A1 σ H1 Γ Δ1 _ _ (hs.ext e1) c1 p fun vs ds A2 H2 Δ2 e2 c2 r2 p2 => ?_⟩
  obtain ⟨hi, p2⟩ := p2
  have r1' := r1.ext e2
  obtain ⟨a', dx, fs, ea, g1⟩ := r1'.inst c2 hi
  cases ea
  exact ⟨.inr ⟨dx, fs, g1⟩, S, A2, Δ2, d :: ds, P, by rw [List.append_nil]; exact .cons r1' r2, c2, p2, fun v d A' H' Δ' e3 c3 r3 p3 => k v d A' H' Δ' ((e1.trans e2).trans e3) c3 r3 p3⟩
end

/-! ### stores into attributes -/
def putFd (f : Str) (v : D) : List (Str × D) → List (Str × D)
  | [] => [(f, v)]
  | (g, x) :: r => if g = f then (g, v) :: r else (g, x) :: putFd f v r
def zSetF (c : Nat) (f : Str) (zo zv : ZE) : ZS := fun Z Γ Δ => zv Γ Δ fun y Δ1 => zo Γ Δ1 fun o Δ2 => ∃ n fs, o = .cell n ∧ Δ2[n]? = some (.ins c fs) ∧ fs.length < 1000 ∧ Z.nx Γ (Δ2.set n (.ins c (putFd f y fs)))
section
variable {K : PySem.W.Frag} {C : CI} {S A : List Addr} {H : Hp} {Δ : Store}
theorem putF_rep {f : Str} {v : V} {d : D} (r : Rep K C S A H v d) : ∀ {xs : List (Str × V)} {fs : List (Str × D)}, xs.map (·.1) = fs.map (·.1) → RepL K C S A H (xs.map (·.2)) (fs.map (·.2)) →
    (putF f v xs).map (·.1) = (putFd f d fs).map (·.1) ∧ RepL K C S A H ((putF f v xs).map (·.2)) ((putFd f d fs).map (·.2))
  | [], [], _, _ => ⟨rfl, .cons r .nil⟩
  | [], _ :: _, e, _ => by simp at e
  | _ :: _, [], e, _ => by simp at e
  | (n, x) :: xs, (m, y) :: fs, e, rr => by
    rw [List.map_cons, List.map_cons] at e rr
    obtain ⟨e1, e2⟩ := List.cons.inj e
    have e1 : n = m := e1
    subst e1
    cases rr with
    | cons h1 rr =>
      unfold putF putFd
      by_cases q : n = f
      · rw [if_pos q, if_pos q]
        exact ⟨by rw [List.map_cons, List.map_cons, e2], .cons r rr⟩
      · rw [if_neg q, if_neg q]
        obtain ⟨g1, g2⟩ := putF_rep r e2 rr
        exact ⟨by rw [List.map_cons, List.map_cons, g1], .cons h1 g2⟩
end
section
variable {C : CI} {X : Cx} {o value : Expr} {zo zv : ZE} {pos pos' : Pos} {f : Str}
theorem sz_setF {c : Nat} (ho : EZ C X o zo) (hv : EZ C X value zv) (cl : Cls X.K (C.adr c)) (n : NoAttr X.K (C.adr c) f) (hs : swapsWith value (some (.Attribute o f pos')) pos.line X.env = pure false := by rfl) : SZ C X (.Assign [.Attribute o f pos'] value pos) (zSetF c f zo zv) := by
  obtain ⟨t, o1, o2⟩ := ho.ex
  obtain ⟨u, v1, v2⟩ := hv.ex
  refine ⟨_, ps_fld o1 v1 hs, fun S A σ H Γ Δ Z N hs hc hz k => v2 S A σ H Γ Δ _ _ hs hc hz fun y dy A1 H1 Δ1 e1 c1 r1 p => o2 S A1 σ H1 Γ Δ1 _ _ (hs.ext e1) c1 p fun w dw A2 H2 Δ2 e2 c2 r2 p => ?_⟩
  obtain ⟨m, fs, rfl, hm, hl, p⟩ := p
  cases r2 with
  | cell g =>
    rename_i a
    obtain ⟨dx, xs, g1, g2, g3⟩ := c2.at_ m a _ g hm
    have hlen : xs.length = fs.length := by have := congrArg List.length g2; rw [List.length_map, List.length_map] at this; exact this
    have hp : a ∈ A2 := List.mem_of_getElem? g
    have ew : Ext A2 H2 A2 (upd H2 a (.ins (C.adr c) dx (putF f y xs))) := Ext.write hp (by rw [g1]; simp)
    obtain ⟨q1, q2⟩ := putF_rep (f := f) (r1.ext e2) g2 g3
    have q := c2.putO (u := .ins (C.adr c) dx (putF f y xs)) (o := .ins c (putFd f dy fs)) g ⟨dx, _, upd_same, q1, q2.ext ew⟩
    exact ⟨a, C.adr c, dx, xs, rfl, g1, cl, n, by rw [hlen]; exact hl, k.nx σ A2 _ Γ _ ((e1.trans e2).trans q.2) ((hs.ext (e1.trans e2)).ext q.2) q.1 p⟩
end

/-! ### an instance is made and never changed again -/
mutual
def below (m : Nat) : D → Bool
  | .cell n => decide (n < m)
  | .tup ds | .lst ds | .ins _ ds | .dct _ ds => belowL m ds
  | _ => true
def belowL (m : Nat) : List D → Bool
  | [] => true
  | d :: ds => below m d && belowL m ds
end
section
variable {K : PySem.W.Frag} {C : CI} {S A : List Addr} {H : Hp} {Δ : Store} {x : Addr}
theorem notMem_left {a : Addr} (h : a ∉ A ++ [x]) : a ∉ A := fun q => h (List.mem_append_left _ q)
mutual
theorem Rep.drop : ∀ (d : D) {v : V}, below A.length d = true → Rep K C S (A ++ [x]) H v d → Rep K C S A H v d
  | .non, _, _, h => by cases h; exact .non
  | .bl b, _, _, h => by cases h; exact .bl b
  | .int i, _, _, h => by cases h; exact .int i
  | .str x, _, _, h => by cases h; exact .str x
  | .ty n, _, _, h => by cases h; exact .ty n
  | .cls c, _, _, h => by cases h; exact .cls c
  | .tup ds, _, hb, h => by cases h with | tup h hA hS r => exact .tup h (notMem_left hA) hS (RepL.drop_ ds hb r)
  | .lst ds, _, hb, h => by cases h with | lst h hA hS r => exact .lst h (notMem_left hA) hS (RepL.drop_ ds hb r)
  | .ins c ds, _, hb, h => by cases h with | ins h hA hS hl r => exact .ins h (notMem_left hA) hS hl (RepL.drop_ ds hb r)
  | .dct ks ds, _, hb, h => by cases h with | dct h hA hS hl r => exact .dct h (notMem_left hA) hS hl (RepL.drop_ ds hb r)
  | .cell n, _, hb, h => by
    cases h with
    | cell h =>
      have hn : n < A.length := of_decide_eq_true hb
      rw [List.getElem?_append_left hn] at h
      exact .cell h
  | .scr ns, _, _, h => by
    cases h with
    | scr h =>
      rcases h with ⟨h, hA, hS⟩ | h
      · exact .scr (.inl ⟨h, notMem_left hA, hS⟩)
      · exact .scr (.inr h)
theorem RepL.drop_ : ∀ (ds : List D) {vs : List V}, belowL A.length ds = true → RepL K C S (A ++ [x]) H vs ds → RepL K C S A H vs ds
  | [], _, _, h => by cases h; exact .nil
  | d :: ds, _, hb, h => by
    have hb' : (below A.length d && belowL A.length ds) = true := hb
    rw [Bool.and_eq_true] at hb'
    cases h with
    | cons h r => exact .cons (Rep.drop d hb'.1 h) (RepL.drop_ ds hb'.2 r)
end
mutual
theorem Rep.blw : ∀ (d : D) {v : V}, Rep K C S A H v d → below A.length d = true
  | .non, _, h => rfl
  | .bl b, _, h => rfl
  | .int i, _, h => rfl
  | .str x, _, h => rfl
  | .ty n, _, h => rfl
  | .cls c, _, h => rfl
  | .tup ds, _, h => by cases h with | tup h hA hS r => exact RepL.blw ds r
  | .lst ds, _, h => by cases h with | lst h hA hS r => exact RepL.blw ds r
  | .ins c ds, _, h => by cases h with | ins h hA hS hl r => exact RepL.blw ds r
  | .dct ks ds, _, h => by cases h with | dct h hA hS hl r => exact RepL.blw ds r
  | .cell n, _, h => by cases h with | cell h => exact decide_eq_true (List.getElem?_eq_some_iff.mp h).1
  | .scr ns, _, h => rfl
theorem RepL.blw : ∀ (ds : List D) {vs : List V}, RepL K C S A H vs ds → belowL A.length ds = true
  | [], _, _ => rfl
  | d :: ds, _, h => by
    cases h with
    | cons h r =>
      show (Z.below A.length d && belowL A.length ds) = true
      rw [Rep.blw d h, RepL.blw ds r]
      rfl
end
theorem zip_of : ∀ {ns : List Str} {xs : List (Str × V)}, xs.map (·.1) = ns → xs = ns.zip (xs.map (·.2))
  | [], [], _ => rfl
  | [], _ :: _, e => by simp at e
  | _ :: _, [], e => by simp at e
  | n :: ns, (m, x) :: xs, e => by
    obtain ⟨e1, e2⟩ := List.cons.inj e
    have e1 : m = n := e1
    subst e1
    rw [List.map_cons, List.zip_cons_cons, ← zip_of e2]
theorem zip_fst : ∀ {ns : List Str} {es : List D}, es.length = ns.length → (ns.zip es).map (·.1) = ns
  | [], [], _ => rfl
  | [], _ :: _, e => by simp at e
  | _ :: _, [], e => by simp at e
  | n :: ns, d :: es, e => by
    rw [List.zip_cons_cons, List.map_cons, zip_fst (by simpa using e)]
theorem zip_snd : ∀ {ns : List Str} {es : List D}, es.length = ns.length → (ns.zip es).map (·.2) = es
  | [], [], _ => rfl
  | [], _ :: _, e => by simp at e
  | _ :: _, [], e => by simp at e
  | n :: ns, d :: es, e => by
    rw [List.zip_cons_cons, List.map_cons, zip_snd (by simpa using e)]
/-- the last cell forgotten: an instance that stays as it is -/
theorem Cells.freeze {H0 : Hp} {c : Nat} {es : List D} (c1 : Cells K C S A H0 Δ) (hc : Cells K C S (A ++ [x]) H (Δ ++ [.ins c ((C.nms c).zip es)])) (hl : es.length = (C.nms c).length) (hb : belowL A.length es = true) : Cells K C S A H Δ ∧ Rep K C S A H (.ref x) (.ins c es) := by
  have lenΔ := c1.len
  refine ⟨⟨c1.len, c1.nd, c1.dj, hc.as, fun n a o h1 h2 => ?_⟩, ?_⟩
  · have hn : n < A.length := (List.getElem?_eq_some_iff.mp h1).1
    have q := hc.at_ n a o (by rw [List.getElem?_append_left hn]; exact h1) (by rw [List.getElem?_append_left (by rw [← lenΔ]; exact hn)]; exact h2)
    have q0 := c1.at_ n a o h1 h2
    cases o with
    | lst ds =>
      obtain ⟨xs, g1, g2⟩ := q
      obtain ⟨_, _, g3⟩ := q0
      exact ⟨xs, g1, RepL.drop_ ds (RepL.blw ds g3) g2⟩
    | ins c fs =>
      obtain ⟨dx, xs, g1, g2, g3⟩ := q
      obtain ⟨_, _, _, _, g4⟩ := q0
      exact ⟨dx, xs, g1, g2, RepL.drop_ _ (RepL.blw _ g4) g3⟩
    | dct ks ds =>
      obtain ⟨xs, g1, g2, g3⟩ := q
      obtain ⟨_, _, _, g4⟩ := q0
      exact ⟨xs, g1, g2, RepL.drop_ _ (RepL.blw _ g4) g3⟩
  · have q := hc.at_ A.length x (.ins c ((C.nms c).zip es)) (by rw [List.getElem?_append_right (Nat.le_refl _), Nat.sub_self] <;> rfl) (by rw [lenΔ, List.getElem?_append_right (Nat.le_refl _), Nat.sub_self] <;> rfl)
    obtain ⟨dx, xs, g1, g2, g3⟩ := q
    rw [zip_fst hl] at g2
    rw [zip_snd hl] at g3
    have hx : x ∉ A := fun h => by
      have := List.nodup_append.mp hc.nd
      exact this.2.2 x h x (by simp) rfl
    have hxS : x ∉ S := hc.dj x (by simp)
    rw [zip_of g2] at g1
    exact .ins g1 hx hxS (by rw [g3.length]; exact hl) (RepL.drop_ es hb g3)
end
/-- C(..), never changed again: what __init__ makes of a new cell, as data -/
def zMakeF (C : CI) (c : Nat) (W : ZRC) (dds : List D) (za : ZA) : ZE := fun Γ Δ P => za Γ Δ fun ds Δ1 => W (.cell Δ1.length :: (ds ++ dds)) (Δ1 ++ [.ins c []]) fun v Δ2 => v = .non ∧ ∃ es, Δ2 = Δ1 ++ [.ins c ((C.nms c).zip es)] ∧ es.length = (C.nms c).length ∧ belowL Δ1.length es = true ∧ P (.ins c es) Δ1
section
variable {C : CI} {X : Cx} {e : Expr} {es : List Expr} {za : ZA} {pos p : Pos} {x : Str} {k : Nat} {f : Addr} {fd : FuncData} {ps : List Str} {W : ZRC} {dvs : List V} {dds : List D} {ds : List Value}
theorem ref_make {K : PySem.W.Frag} {c : Nat} {ta : TA} {E : XK} (ha : RefA K C ta za) (hdd : ∀ S A H, RepL K C S A H dvs dds) : RefE K C (tMake (C.adr c) (SpZ K C W) dvs E ta) (zMakeF C c W dds za) := fun S A σ H Γ Δ P Q hs hc hz k =>
  ha S A σ H Γ Δ _ _ hs hc hz fun vs ds A1 H1 Δ1 e1 c1 r1 p x dx hx hdx hne => by
    have hx0 : upd H1 dx (.own x) x = none := by rw [upd_ne (Ne.symm hne)]; exact hx
    have e2 : Ext A1 H1 A1 (upd H1 dx (.own x)) := Ext.new hdx
    have e3 : Ext A1 (upd H1 dx (.own x)) (A1 ++ [x]) (upd (upd H1 dx (.own x)) x (.ins (C.adr c) dx [])) := Ext.newCell hx0
    have e23 := e2.trans e3
    refine ⟨S, A1 ++ [x], Δ1 ++ [.ins c []], .cell Δ1.length :: (ds ++ dds), _, .cons (.cell ?_) ((r1.ext e23).append (hdd _ _ _)), (c1.new hdx).newO (o := .ins c []) hx0 ⟨dx, [], upd_same, rfl, .nil⟩, p, fun v d A' H' Δ' e4 c4 r4 p4 => ?_⟩
    · rw [← c1.len, List.getElem?_append_right (Nat.le_refl _), Nat.sub_self] <;> rfl
    · obtain ⟨rfl, es, rfl, hl, hb, p4⟩ := p4
      cases r4
      refine ⟨rfl, ?_⟩
      have hA' : A' = A1 ++ [x] := by
        obtain ⟨B, hB, _⟩ := e4.pre
        have hlen := c4.len
        rw [hB, List.length_append, List.length_append, List.length_append, c1.len] at hlen
        have hB0 : B.length = 0 := by
          have h1 : ([x] : List Addr).length = 1 := rfl
          have h2 : ([O.ins c ((C.nms c).zip es)] : List O).length = 1 := rfl
          omega
        rw [List.length_eq_zero_iff.mp hB0, List.append_nil] at hB
        exact hB
      subst hA'
      obtain ⟨c5, r5⟩ := c1.freeze c4 hl (by rw [c1.len]; exact hb)
      have e14 := e23.trans e4
      refine k _ _ A1 H' Δ1 (e1.trans ⟨⟨[], by simp, by simp⟩, fun a o h1 h2 => e14.keep a o h1 h2, e14.trk⟩) c5 r5 p4
theorem ez_makeF {c : Nat} (M : Mk X.K (C.adr c) f) (F : FnOk X.prog X.w X.K X.mg X.base CX0 k f fd ps (SpZ X.K C W)) (hr : Room (k + 1) X.A) (hm : X.mg x = some (.ref (C.adr c))) (hb : Binds X.K fd ps ds) (hd : Vals dvs ds) (hdd : ∀ S A H, RepL X.K C S A H dvs dds)
    (ha : AZ C X (e :: es) za) (hg : Gl X x := by rfl) (hdb : (x == ("__debug__" : Str)) = false := by decide) (he : starEach (e :: es) X.env = (false, eval e X.env) :: starEach es X.env := by rfl) (hpl : (backTo pos (starEach es X.env)).any (·.1) = false := by rfl) :
    EZ C X (.Call (.Name x p) (e :: es) [] pos) (zMakeF C c W dds za) := by
  obtain ⟨t, a1, a2⟩ := ha.ex
  exact ⟨_, pe_make M F hr hg hm hb hd (E := E0) pass0 a1 hdb he hpl, ref_make a2 hdd⟩
end

/-! ### isinstance -/
def tyD (C : CI) (Δ : Store) : D → Option Value
  | .non => some (.type "NoneType")
  | .bl _ => some (.type "bool")
  | .int _ => some (.type "int")
  | .str _ => some (.type "str")
  | .tup _ => some (.type "tuple")
  | .lst _ => some (.type "list")
  | .ins c _ => some (.ref (C.adr c))
  | .cell n => match Δ[n]? with
    | some (.lst _) => some (.type "list")
    | some (.ins c _) => some (.ref (C.adr c))
    | _ => none
  | _ => none
def clsD (C : CI) : D → Option Value
  | .ty n => some (.type n)
  | .cls c => some (.ref (C.adr c))
  | _ => none
/-- what the written part says of a class whose instances are asked for their class -/
structure Isi (K : PySem.W.Frag) (Ca : Addr) : Prop where
  cl : Cls K Ca
  ha : PySem.W.findIn K (.ref Ca) "__class__" = some (some (.builtin "object.__class__"))
  hn : PySem.W.specialIn K (.builtin "object.__class__") "__get__" = some (some (.builtin "getset_descriptor.__get__"))
  htk : PySem.W.takesIn K (.builtin "object.__class__") = some true
  hm : PySem.W.mroIn K Ca (.type "object") = some true
def zIsi (K : PySem.W.Frag) (C : CI) : ZRC := fun ds Δ P => ∃ x y t u b, ds = [x, y] ∧ tyD C Δ x = some t ∧ clsD C y = some u ∧ (∀ Ca, t = .ref Ca → Isi K Ca) ∧ PySem.W.kitOne K t u = some b ∧ P (.bl b) Δ
section
variable {C : CI} {X : Cx}
theorem Rep.tyX {K : PySem.W.Frag} {S A : List Addr} {H : Hp} {Δ : Store} {v : V} {d : D} {t : Value} (hc : Cells K C S A H Δ) (r : Rep K C S A H v d) (h : tyD C Δ d = some t) (hI : ∀ Ca, t = .ref Ca → Isi K Ca) : TyX K H v t := by
  cases r with
  | non => cases h; exact .base .non
  | bl b => cases h; exact .base (.bl b)
  | int b => cases h; exact .base (.int b)
  | str b => cases h; exact .base (.str b)
  | tup h1 _ _ _ => cases h; exact .base (.tup h1)
  | lst h1 _ _ _ => cases h; exact .base (.lst h1)
  | ins h1 _ _ _ _ =>
    cases h
    have q := hI _ rfl
    exact .base (.ins h1 q.cl q.ha q.hn q.htk q.hm)
  | cell e =>
    rename_i a n
    unfold tyD at h
    cases q : Δ[n]? with
    | none => simp only [q] at h; cases h
    | some o =>
      cases o with
      | lst ds =>
        simp only [q] at h
        cases h
        obtain ⟨xs, h1, h2⟩ := hc.at_ n a _ e q
        exact .base (.lst h1)
      | ins c fs =>
        simp only [q] at h
        cases h
        obtain ⟨dx, xs, h1, h2⟩ := hc.at_ n a _ e q
        have q := hI _ rfl
        exact .base (.ins h1 q.cl q.ha q.hn q.htk q.hm)
      | dct _ _ => simp only [q] at h; cases h
  | ty n => exact nomatch h
  | scr _ => exact nomatch h
  | cls _ => exact nomatch h
  | dct _ _ _ _ _ => exact nomatch h
theorem Rep.clsV {K : PySem.W.Frag} {S A : List Addr} {H : Hp} {v : V} {d : D} {u : Value} (r : Rep K C S A H v d) (h : clsD C d = some u) : ClsV v u := by
  cases r with
  | ty n => cases h; exact .ty n
  | cls c => cases h; exact .own _
  | non => exact nomatch h
  | dct _ _ _ _ _ => exact nomatch h
  | bl b => exact nomatch h
  | int b => exact nomatch h
  | str b => exact nomatch h
  | tup _ _ _ _ => exact nomatch h
  | lst _ _ _ _ => exact nomatch h
  | ins _ _ _ _ _ => exact nomatch h
  | cell _ => exact nomatch h
  | scr _ => exact nomatch h
theorem cz_isi : CallZ C X (.builtin "isinstance") (zIsi X.K C) := ⟨_, call_isi, fun S A H Δ xs ds P Q hc r hz k => by
  obtain ⟨x, y, t, u, b, rfl, h1, h2, h3, h4, q⟩ := hz
  obtain ⟨v, v', rfl, rv, rv'⟩ := two_rep r
  exact ⟨v, v', t, u, b, rfl, rv'.clsV h2, rv.tyX hc h1 h3, h4, k _ _ A H Δ (Ext.refl _ _) hc (.bl _) q⟩⟩
theorem ez_cls {c : Nat} {x : Str} {pos : Pos} (hm : X.mg x = some (.ref (C.adr c))) (hg : Gl X x := by rfl) (hd : (x == ("__debug__" : Str)) = false := by decide) : EZ C X (.Name x pos) (zC (.cls c)) :=
  ⟨_, pe_glob (v := .ref (C.adr c)) hg hm rfl hd, ref_c fun _ _ _ => .cls c⟩
end
end Z

/-! Z6: defs that are entered with no guard around (repr asks it), repr of data, the law's call. -/
namespace Z
open PySem PySem.Spec PyProof.Rows L2

/-- a promise that is kept where no repr is under way -/
structure FnG (P : Program) (w : World) (K : PySem.W.Frag) (mg : Str → Option Value) (base : Heap) (k : Nat) (f : Addr) (fd : FuncData) (ps : List Str) (sp : Sp) : Prop where
  arity : ∀ ws hp q x, sp ws hp q x → ws.length = ps.length
  go : ∀ (B : Around) (fr : List PySem.Env) (st : Shared) (hp : Hp) (ar : Args) (us : List Value) (ws : List V) (q : VK) (x : XK), B.guards = some [] → Room k B → Env0 P w K mg base B fr st hp → BindsTo st fd ar (ps.zip us) → Vals ws us → sp ws hp q x →
    codeAny (model P w) B (.call (.ref f) ar) (CR CX0 fr P w hp st q x) st
section
variable {P : Program} {w : World} {K : PySem.W.Frag} {mg : Str → Option Value} {base : Heap} {k : Nat} {f : Addr} {fd : FuncData} {ps : List Str} {sp : Sp}
theorem fng_of (F : FnOk P w K mg base CX0 k f fd ps sp) : FnG P w K mg base k f fd ps sp := ⟨F.len, fun B fr st hp ar us ws q x _ => F.run B fr st hp ar us ws q x⟩
/-- a def's body, entered with no guard around -/
theorem fng_ok {y qual : Str} {sm : Stmt} {N : List Str} {W : ZRC} {C : CI} (F : Fun K y qual sm f fd) (Sc : FnScope N ps (defScope sm)) (len : ∀ ds Δ P, W ds Δ P → ds.length = ps.length)
    (body : ∀ (cdv : Value) (B : Around) (fr : List PySem.Env) (st : Shared) (hp : Hp) (x : XK), (cxOf CX0 P w K mg base N qual (defScope sm) f cdv B fr st hp x).nox.A.guards = some [] → Room k (B.deeper (PyProof.Rows.envOfC qual (defScope sm) st.heap.objs.size f cdv)) →
      ∃ z : ZS, SZs C (cxOf CX0 P w K mg base N qual (defScope sm) f cdv B fr st hp x).nox (defBody sm) z ∧ ∀ ds Δ P, W ds Δ P → z { nx := fun _ Δ' => P .non Δ', rt := P } (startZ N ds) Δ) : FnG P w K mg base (k + 1) f fd ps (SpZ K C W) := by
  have lenV : ∀ ws hp q x, SpZ K C W ws hp q x → ws.length = ps.length := fun ws hp q x h => by
    obtain ⟨S, A, Δ, ds, P, r, _, hw, _⟩ := h
    rw [r.length]
    exact len ds Δ P hw
  obtain ⟨oc, od, kV, doc, pm, an, cdv, ct, osl, rfl, lk, hcd⟩ := F.ex
  refine ⟨lenV, fun B fr st hp ar us ws q x hg hr e0 hb r hsp => ?_⟩
  have there := fun b o e => (e0.bs b o e).1
  have KX := e0.mod.kin.keeps there
  have locals_ : ∀ z ∈ ps.zip us, (defScope sm).names.lookup z.1 = some .local ∨ ((defScope sm).names.lookup z.1 = some .cell ∧ ((cellsFrom (st.heap.objs.size + 1) (defScope sm).names []).lookup z.1).isSome = true) := fun z hz => by
    obtain ⟨n, v⟩ := z
    exact (Sc.par n (List.of_mem_zip hz).1).elim Or.inl fun c => .inr ⟨c, PySem.W.cellsFrom_some _ _ _ (.inl c)⟩
  refine codeAny_call_function hr.depth (KX _ _ lk) rfl Sc.co Sc.gen rfl (PySem.W.codeRec_of KX hcd) (hb _ _ _ _ ?_)
  refine wpAny_newFunctionEnv_cells Sc.kind locals_ fun nv enr s1 inC => ?_
  subst enr
  refine ⟨(e0.mod.nolimit.keeps there).keeps inC.toInCall.keep, codeAny_func ?_⟩
  obtain ⟨z, hz, hzz⟩ := body cdv B fr st hp x hg (hr.deeper _)
  obtain ⟨ts, h1, h2⟩ := hz.ex
  obtain ⟨S, A', Δ, ds, P', rl, hc, hw, kk⟩ := hsp
  have I : Inv (cxOf CX0 P w K mg base N qual (defScope sm) f cdv B fr st hp x) [] (L2.start N ws) hp s1 := inv_start Sc hr.hd e0 (lenV ws hp q x ⟨S, A', Δ, ds, P', rl, hc, hw, kk⟩) r inC
  have rd : ts { nx := fun _ H' => q .non H', rt := q } (L2.start N ws) hp := h2 S A' _ hp (startZ N ds) Δ { nx := fun _ Δ' => P' .non Δ', rt := P' } _ (slots_start rl) hc (hzz ds Δ P' hw)
    ⟨fun σ' A2 H2 Γ2 Δ2 e2 s2 c2 y => kk .non .non A2 H2 Δ2 e2 c2 .non y, fun σ' A2 H2 Γ2 Δ2 e2 s2 c2 y => y.elim, fun σ' A2 H2 Γ2 Δ2 e2 s2 c2 y => y.elim, fun v d A2 H2 Δ2 e2 c2 r2 y => kk v d A2 H2 Δ2 e2 c2 r2 y⟩
  refine wpAny_mono (h1.nox.run [] s1 _ hp _ I rd) (fun fl s' hs => ?_) fun _ _ y => y
  cases fl with
  | ret u =>
    obtain ⟨v, σ', H', J, rv, y⟩ := hs
    exact ⟨v, H', J.os, J.bare, J.base, J.hok, rv, y⟩
  | next =>
    obtain ⟨σ', H', J, y⟩ := hs
    exact ⟨V.non, H', J.os, J.bare, J.base, J.hok, rfl, y⟩
  | brk =>
    obtain ⟨_, _, _, y⟩ := hs
    exact False.elim y
  | cont =>
    obtain ⟨_, _, _, y⟩ := hs
    exact False.elim y
end
section
variable {C : CI} {X : Cx} {e : Expr} {es : List Expr} {za : ZA} {pos p : Pos} {x : Str} {k : Nat} {f : Addr} {fd : FuncData} {ps : List Str} {W : ZRC}
theorem ez_callG (F : FnG X.prog X.w X.K X.mg X.base k f fd ps (SpZ X.K C W)) (gd : X.A.guards = some []) (hr : Room k X.A) (hm : X.mg x = some (.ref f)) (hk : PySem.W.keepIn X.K (.ref f) = true) (hb : Binds X.K fd ps [])
    (ha : AZ C X (e :: es) za) (hg : Gl X x := by rfl) (hdb : (x == ("__debug__" : Str)) = false := by decide) (he : starEach (e :: es) X.env = (false, eval e X.env) :: starEach es X.env := by rfl) (hpl : (backTo pos (starEach es X.env)).any (·.1) = false := by rfl) :
    EZ C X (.Call (.Name x p) (e :: es) [] pos) (zCall W [] za) := by
  obtain ⟨t, a1, a2⟩ := ha.ex
  refine ⟨tCall (SpZ X.K C W) [] E0 t, ⟨fun pins s σ H Q I h => ?_⟩, ref_call a2 fun _ _ _ => .nil⟩
  refine wpAny_Call_Name_kw (ld_glob I hg hm ?_ hdb)
  refine PySem.W.callWith_K (h₀ := X.base) I.ok.mod.kin hk (thn (a1.run pos pins s σ H _ I h) fun us s1 got => ?_) he hpl
  obtain ⟨vs, H1, I1, r, q⟩ := got
  rw [List.append_nil] at q
  refine ⟨I1.kIn, ?_⟩
  have hl : us.length = ps.length := by rw [← r.length]; exact F.arity _ _ _ _ q
  have bd : BindsTo s1 fd ⟨us, []⟩ (ps.zip us) := by
    have b := hb s1 us I1.kIn (by rw [List.append_nil]; exact hl)
    rw [List.append_nil] at b
    exact b
  refine wpAny_call (codeAny_mono (F.go X.A X.stack s1 H1 ⟨us, []⟩ us vs Q E0 gd hr I1.env0 bd r q) fun res s' hq => ?_)
  match res, hq with
  | .error e, hq => exact hq.elim
  | .ok (.ret u), hq => exact I1.after hq
  | .ok .next, hq => exact False.elim hq
  | .ok .brk, hq => exact False.elim hq
  | .ok .cont, hq => exact False.elim hq

/-! ### repr -/
mutual
theorem noDict_pd : ∀ d : D, plainD d = true → (pd d).hasDict = false
  | .non, _ => rfl
  | .bl _, _ => rfl
  | .int _, _ => rfl
  | .str _, _ => rfl
  | .tup ds, h => by show PyData.hasDictAll (pds ds) = false; exact noDict_pds ds h
  | .lst ds, h => by show PyData.hasDictAll (pds ds) = false; exact noDict_pds ds h
  | .ty _, h => by cases h
  | .ins _ _, h => by cases h
  | .cell _, h => by cases h
  | .scr _, h => by cases h
  | .cls _, h => by cases h
  | .dct _ _, h => by cases h
theorem noDict_pds : ∀ ds : List D, plainDs ds = true → PyData.hasDictAll (pds ds) = false
  | [], _ => rfl
  | d :: ds, h => by
    have h' : (plainD d && plainDs ds) = true := h
    rw [Bool.and_eq_true] at h'
    show ((pd d).hasDict || PyData.hasDictAll (pds ds)) = false
    rw [noDict_pd d h'.1, noDict_pds ds h'.2]
    rfl
end
/-- what repr can show -/
structure Showable (d : D) : Prop where
  pl : plainD d = true
  sh : (pd d).showable = true
  dp : (pd d).depth ≤ 60
  sz : (pd d).shown.length ≤ sizeLine
def zRepr : ZRC := fun ds Δ P => ∃ d, ds = [d] ∧ Showable (rd Δ d) ∧ P (.str (pd (rd Δ d)).shown) Δ
theorem cr_repr (gd : X.A.guards = some []) (hu : X.A.units + 64 < cLine) : CallR X (.builtin "repr") (fun xs H Q => ∃ x d, xs = [x] ∧ Dp X.K H x (pd d) ∧ Showable d ∧ Q (.str (pd d).shown) H) := by
  intro pins s σ H xs us Q I r h
  obtain ⟨x, d, rfl, hd, sh, q⟩ := h
  obtain ⟨u, rfl, ru⟩ := vals1 r
  have nd := noDict_pd d sh.pl
  obtain ⟨_, hs, hdp, hsz⟩ := sh
  generalize pd d = e at *
  have dspl : ∀ a, x = .ref a → wpAny (model X.prog X.w) X.A (call (.builtin "repr") [u]) (EP X pins σ Q) X.xe s := fun a hx => by
    subst hx
    obtain rfl : u = Value.ref a := ru
    obtain ⟨as, rr⟩ := Dp.reads I e (.ref a) (.ref a) hd rfl
    exact PySem.repr_of_reads' rr hs (PyData.noDict_hsm nd) gd (by omega) (fun _ _ e => e) (fun h' u tk hk => ⟨.str _, H, I.kept (t' := tk) hk, ⟨u, rfl⟩, q⟩) hsz
  cases hd with
  | non => obtain rfl : u = Value.none := ru; exact PySem.P.repr_of_none ⟨.str _, H, I.tok _, ⟨_, rfl⟩, q⟩
  | bl b => obtain rfl : u = Value.bool b := ru; exact PySem.P.repr_of_bool ⟨.str _, H, I.tok _, ⟨_, rfl⟩, q⟩
  | int i => obtain ⟨t, rfl⟩ := ru; exact PySem.P.repr_of_int (of_decide_eq_true hs) ⟨.str _, H, I.tok _, ⟨_, rfl⟩, q⟩
  | str z => obtain ⟨t, rfl⟩ := ru; exact PySem.P.repr_of_str ⟨.str _, H, I.tok _, ⟨_, rfl⟩, q⟩ hsz
  | lst h1 h2 => exact dspl _ rfl
  | tup h1 h2 => exact dspl _ rfl
theorem cz_repr (gd : X.A.guards = some []) (hu : X.A.units + 64 < cLine) : CallZ C X (.builtin "repr") zRepr := ⟨_, cr_repr gd hu, fun S A H Δ xs ds P Q hc r hz k => by
  obtain ⟨d, rfl, sh, q⟩ := hz
  obtain ⟨v, rfl, rv⟩ := one_rep r
  exact ⟨v, rd Δ d, rfl, dp_rd hc rv sh.pl, sh, k _ _ A H Δ (Ext.refl _ _) hc (.str _) q⟩⟩
end

/-! ### the law is called -/
section
variable {P : Program} {w : World} {K : PySem.W.Frag} {mg mb : Str → Option Value} {k : Nat} {fa a : Addr} {fd : FuncData} {x : Str} {s₁ : Shared} {vs : List Value} {ns : List Int} {C : CI} {W : ZRC}
theorem law_callG (KX : K.In s₁.heap) (hns : s₁.heap.Ns mainGlobals mg) (hb : s₁.heap.Ns builtinsNs mb) (hbb : ∀ x : Str, x ≠ "__name__" → mb x = bootBuiltins x) (hlim : s₁.heap.NoLimit) (hg : s₁.gens = #[])
    (ha : s₁.heap.get? a = some { cls := .type "list", data := .seq vs.toArray }) (hi : IntsAre vs ns) (hl : ns.length ≤ sizeLine) (hr : Room k callerA)
    (F : ∀ base : Heap, K.In base → base.Ns mainGlobals mg → FnG P w K mg base k fa fd [x] (SpZ K C W)) (hbind : ∀ (s : Shared) (u : Value), BindsTo s fd ⟨[u], []⟩ [(x, u)])
    (hW : W [.scr ns] [] fun d _ => d = .bl true) :
    codeAny (model P w) callerA (.call (.ref fa) ⟨[.ref a], []⟩) (fun r s' => r = .ok (.ret (.bool true)) ∧ OldK s₁.heap s'.heap ∧ s'.os = s₁.os ∧ AllBare s'.gens) s₁ := by
  have rv := vals_ints hi
  have lenV := hi.length
  have main : ∀ H : Hp, Only H → Rep K C [] [] H (.ref a) (.scr ns) → HOk P w H s₁.heap → (∀ b, H b ≠ none → b = a) → (H a ≠ none → K.lookup a = none) →
      codeAny (model P w) callerA (.call (.ref fa) ⟨[.ref a], []⟩) (fun r s' => r = .ok (.ret (.bool true)) ∧ OldK s₁.heap s'.heap ∧ s'.os = s₁.os ∧ AllBare s'.gens) s₁ := by
    intro H hO hS hok hA hK
    have free_of : ∀ {b : Addr} {o : Obj}, s₁.heap.get? b = some o → (b = a → False) → H b = none := fun {b o} e n => by
      cases q : H b with
      | none => rfl
      | some u => exact (n (hA b (by rw [q]; simp))).elim
    have dicts : ∀ {b : Addr} {m : Str → Option Value}, s₁.heap.Ns b m → (hidT s₁.heap H).Ns b m := fun {b m} hNs => by
      obtain ⟨o, es, ep, e, d, r⟩ := hNs
      refine ⟨o, es, ep, hidT_get e (free_of e fun q => ?_), d, r⟩
      subst q
      rw [ha] at e
      cases e
      exact nomatch (show Data.seq vs.toArray _ = Data.dict es ep from d)
    have hKb : K.In (hidT s₁.heap H) := fun b o e => hidT_get (KX b o e) (by
      cases q : H b with
      | none => rfl
      | some u =>
        have e' := hA b (by rw [q]; simp)
        subst e'
        rw [hK (by rw [q]; simp)] at e
        exact nomatch e)
    have hM : Mod K mg (hidT s₁.heap H) := by
      obtain ⟨mc, h1, h2⟩ := hlim
      exact ⟨hKb, dicts hns, ⟨mb, dicts hb, hbb⟩, ⟨mc, dicts h1, h2⟩⟩
    have e0 : Env0 P w K mg (hidT s₁.heap H) callerA [] s₁ H := ⟨rfl, hM, fun b o e => of_hidT e, Nat.le_of_eq (hidT_size _ _), trivial, fun b hb => (nomatch (show b ∈ ([] : List Addr) from hb)), hok, AllBare.of_eq hg⟩
    have cells : Cells K C [] [] H [] := ⟨rfl, List.nodup_nil, fun b hb => (nomatch hb), fun b hb => (nomatch hb), fun n b o h _ => by simp at h⟩
    have sp : SpZ K C W [.ref a] H (fun v _ => v = .bl true) (fun _ _ _ => False) := ⟨[], [], [], [.scr ns], _, .cons hS .nil, cells, hW, fun v d A' H' Δ' _ _ r q => by
      subst q
      cases r
      rfl⟩
    refine codeAny_mono ((F _ hKb (dicts hns)).go callerA [] s₁ H ⟨[.ref a], []⟩ [.ref a] [.ref a] _ _ rfl hr e0 (hbind s₁ (.ref a)) (.cons rfl .nil) sp) fun r s' h => ?_
    match r, h with
    | .error e, h => exact h.elim
    | .ok .next, h => exact False.elim h
    | .ok .brk, h => exact False.elim h
    | .ok .cont, h => exact False.elim h
    | .ok (.ret u), h =>
      obtain ⟨v, H', os, bare, un, hok', r', q⟩ := h
      have q' : v = .bl true := q
      subst q'
      obtain rfl : u = Value.bool true := r'
      refine ⟨rfl, OldK.of_keep fun b o e => ?_, os, bare⟩
      rcases hO b with z | ⟨ob, xs, z⟩
      · exact un.keep b o e z (fun y => (nomatch (show b ∈ ([] : List Addr) from y))) (by simp)
      · obtain ⟨e1, _⟩ := hok b _ z
        obtain ⟨e2, _⟩ := hok' b _ (un.frzs b ob _ z)
        rw [e] at e1
        cases e1
        exact e2
  cases hk : K.lookup a with
  | some o =>
    have e := KX a o hk
    rw [ha] at e
    cases e
    exact main (fun _ => none) (fun _ => .inl rfl) (.scr (.inr ⟨_, vs.toArray, _, hk, rfl, rfl, rfl, by rw [List.size_toArray, lenV]; exact hl, by simpa using rv⟩)) (fun b u z => (nomatch (show (none : Option HO) = some u from z))) (fun b z => absurd rfl z) fun z => absurd rfl z
  | none =>
    have at_a : (fun b => if b = a then some (HO.frz { cls := .type "list", data := .seq vs.toArray } (.lst (ns.map V.int))) else none : Hp) a = some (.frz { cls := .type "list", data := .seq vs.toArray } (.lst (ns.map V.int))) := if_pos rfl
    refine main (fun b => if b = a then some (HO.frz { cls := .type "list", data := .seq vs.toArray } (.lst (ns.map V.int))) else none) (fun b => ?_) (.scr (.inl ⟨⟨_, at_a⟩, by simp, by simp⟩)) (fun b u z => ?_) (fun b z => ?_) fun _ => hk
    · by_cases h : b = a
      · subst h; exact .inr ⟨_, _, at_a⟩
      · exact .inl (if_neg h)
    · by_cases h : b = a
      · subst h
        have z' := at_a.symm.trans z
        cases z'
        exact ⟨ha, by rw [List.length_map]; exact hl, vs, _, rv, ha⟩
      · exact nomatch (if_neg h).symm.trans z
    · by_cases h : b = a
      · exact h
      · exact absurd (if_neg h) z
end
theorem walkG {l : PySem.W.OpenLaw} {n k : Nat} {q : Program} {loose : List Str} {XP : (Str → Option Value) → Heap → Prop} {YP : World → Heap → Prop} {d : DefRec} {K : Params → PySem.W.Frag} {x : Str} {W : ZRC}
    (hn : l.most = some n) (hn2 : n ≤ sizeLine) (hdf : d.params.defaults = []) (hr : Room k callerA) (hY : ∀ (w : World) (h : Heap), YP w h → (K w.params).In h)
    (F : ∀ (w : World) (mg : Str → Option Value) (fa : Addr) (h : Heap), (K w.params).In h → h.Ns mainGlobals mg → mg d.name = some (.ref fa) →
      ∃ (fd : FuncData) (C : CI), (∀ (s : Shared) (u : Value), BindsTo s fd ⟨[u], []⟩ [(x, u)]) ∧ ∀ base : Heap, (K w.params).In base → base.Ns mainGlobals mg → FnG l.prog w (K w.params) mg base k fa fd [x] (SpZ (K w.params) C W))
    (hW : ∀ ns : List Int, ns.length ≤ n → W [.scr ns] [] fun d _ => d = .bl true) : PySem.W.WalkO q loose XP YP l.row.toRowW d [] (fun f vs => PySem.call f vs) := by
  refine Att.attach_call hn hdf fun w s₀ s₁ mg mb fa o pm cd doc a vs ns G Y ho hd hcd hmg hobj hints hlen hg => ?_
  obtain ⟨fd, C, hb, hF⟩ := F w mg fa _ (hY w _ Y) G.T.g hmg
  exact law_callG (hY w _ Y) G.T.g G.T.b G.T.builtins G.T.nolimit hg hobj hints (Nat.le_trans hlen hn2) hr hF hb (hW ns hlen)
end Z

/-! Z7: blocks of comprehensions, products of ints and of lists, == of own classes, more. -/
namespace Z
open PySem PySem.Spec PyProof.Rows L2

/-- the reading that a reading over data stands for -/
def up (K : PySem.W.Frag) (C : CI) (z : ZE) : TE := fun σ H Q => ∃ S A Γ Δ P, Slots K C S A H σ Γ ∧ Cells K C S A H Δ ∧ z Γ Δ P ∧ ∀ v d A' H' Δ', Ext A H A' H' → Cells K C S A' H' Δ' → Rep K C S A' H' v d → P d Δ' → Q v H'
def upT (K : PySem.W.Frag) (C : CI) (z : ZT) : TT := fun σ H Q => ∃ S A Γ Δ P, Slots K C S A H σ Γ ∧ Cells K C S A H Δ ∧ z Γ Δ P ∧ ∀ b A' H' Δ', Ext A H A' H' → Cells K C S A' H' Δ' → P b Δ' → Q b H'
theorem ref_up {K : PySem.W.Frag} {C : CI} {z : ZE} : RefE K C (up K C z) z := fun S A σ H Γ Δ P Q hs hc hz k => ⟨S, A, Γ, Δ, P, hs, hc, hz, k⟩
theorem ref_upT {K : PySem.W.Frag} {C : CI} {z : ZT} : RefT K C (upT K C z) z := fun S A σ H Γ Δ P Q hs hc hz k => ⟨S, A, Γ, Δ, P, hs, hc, hz, k⟩
theorem EZ.up {C : CI} {X : Cx} {e : Expr} {z : ZE} (h : EZ C X e z) : PE X e (Z.up X.K C z) := by
  obtain ⟨t, h1, h2⟩ := h.ex
  refine ⟨fun pins s σ H Q I q => h1.run pins s σ H Q I ?_⟩
  obtain ⟨S, A, Γ, Δ, P, hs, hc, hz, k⟩ := q
  exact h2 S A σ H Γ Δ P Q hs hc hz k
theorem TsZ.up {C : CI} {X : Cx} {es : List Expr} {z : ZT} (h : TsZ C X es z) : PTs X es (upT X.K C z) := by
  obtain ⟨t, h1, h2⟩ := h.ex
  refine ⟨fun pins s σ H Q I q => h1.run pins s σ H Q I ?_⟩
  obtain ⟨S, A, Γ, Δ, P, hs, hc, hz, k⟩ := q
  exact h2 S A σ H Γ Δ P Q hs hc hz k
theorem ref_gName {K : PySem.W.Frag} {C : CI} {i : Nat} : RefG K C (gName i) (zgName i) := fun S A σ H Γ Δ v d P Q hs hc r hz k => k _ A H _ Δ (Ext.refl _ _) (hs.set i r) hc hz
theorem ref_gNil {K : PySem.W.Frag} {C : CI} : RefGs K C gNil zgNil := fun S A σ H Γ Δ vs ds P Q hs hc r hz k => by
  obtain ⟨rfl, p⟩ := hz
  cases r
  exact ⟨rfl, k _ A H _ Δ (Ext.refl _ _) hs hc p⟩
theorem ref_gCons {K : PySem.W.Frag} {C : CI} {g : TG} {gs : TGs} {z : ZG} {zs : ZGs} (h : RefG K C g z) (hr : RefGs K C gs zs) : RefGs K C (gCons g gs) (zgCons z zs) := fun S A σ H Γ Δ vs ds P Q hs hc r hz k => by
  obtain ⟨d, rest, rfl, p⟩ := hz
  cases r with
  | cons r1 r2 => exact ⟨_, _, rfl, h S A σ H Γ Δ _ d _ _ hs hc r1 p fun σ' A' H' Γ' Δ' e1 s1 c1 p1 => hr S A' σ' H' Γ' Δ' _ rest P Q s1 c1 (r2.ext e1) p1 (k.ext e1)⟩
theorem ref_gTup {K : PySem.W.Frag} {C : CI} {gs : TGs} {zs : ZGs} {n : Nat} (h : RefGs K C gs zs) : RefG K C (gTup K n gs) (zgTup n zs) := fun S A σ H Γ Δ v d P Q hs hc r hz k => by
  obtain ⟨ds, rfl, hl, p⟩ := hz
  cases r with
  | tup h1 h2 h3 r => exact ⟨_, _, rfl, SqT.of h1, by rw [r.length]; exact hl, h S A σ H Γ Δ _ ds P Q hs hc r p k⟩
section
variable {C : CI} {X : Cx}
theorem blkz {scope : Scope} {tg : Expr} {ifs : List Expr} {elt : Expr} {g : TG} {zg : ZG} {zt : ZT} {ze : ZE} (hr : RefG X.K C g zg)
    (hg : ∀ (s : Shared) (H : Hp) (Ca : Addr) (cl : List (Str × Addr)) (fp : List Addr), PG (X.blk s H scope (compEnvC scope cl Ca X.env) fp) tg g)
    (ht : ∀ (s : Shared) (H : Hp) (Ca : Addr) (cl : List (Str × Addr)) (fp : List Addr), TsZ C (X.blk s H scope (compEnvC scope cl Ca X.env) fp) ifs zt)
    (he : ∀ (s : Shared) (H : Hp) (Ca : Addr) (cl : List (Str × Addr)) (fp : List Addr), EZ C (X.blk s H scope (compEnvC scope cl Ca X.env) fp) elt ze) : BlkZ C X scope tg ifs elt g zg zt ze :=
  ⟨upT X.K C zt, up X.K C ze, fun s H Ca cl fp => ⟨hg s H Ca cl fp, (ht s H Ca cl fp).up, (he s H Ca cl fp).up⟩, hr, ref_upT, ref_up⟩

/-! ### products -/
def zMulA : ZR2 := fun x y Δ P => (∃ i j, x = .int i ∧ y = .int j ∧ MulOk i j ∧ P (.int (i * j)) Δ) ∨ zRepeat x y Δ P
theorem oz_mulA : OpZ C X (binaryOp .Mult) zMulA := by
  obtain ⟨r, h1, h2⟩ := (oz_mul (C := C) (X := X)).ex
  obtain ⟨r', h1', h2'⟩ := (oz_rep (C := C) (X := X)).ex
  refine ⟨_, OpR.or h1 h1', fun S A H Δ x y dx dy P Q hc rx ry hz k => ?_⟩
  rcases hz with ⟨i, j, q1, q2, q3, q4⟩ | hz
  · exact .inl (h2 S A H Δ x y dx dy P Q hc rx ry ⟨i, j, q1, q2, q3, q4⟩ k)
  · exact .inr (h2' S A H Δ x y dx dy P Q hc rx ry hz k)
/-- xs[::-1] -/
def zRev (z : ZE) : ZE := fun Γ Δ P => z Γ Δ fun x Δ1 => ∃ ds, lstD Δ1 x = some ds ∧ P (.lst ds.reverse) Δ1
theorem ez_rev {e : Expr} {z : ZE} {p1 p2 p3 pos : Pos} (h : EZ C X e z) {k : Nat} : EZ C X (.Subscript e (.Slice none none (some (.UnaryOp .USub (.Constant (.int 1) k p1) p2)) p3) pos) (zRev z) := by
  obtain ⟨t, h1, h2⟩ := h.ex
  refine ⟨_, pe_revL h1, fun S A σ H Γ Δ P Q hs hc hz k => h2 S A σ H Γ Δ _ _ hs hc hz fun v d A1 H1 Δ1 e1 c1 r1 p => ?_⟩
  obtain ⟨ds, hd, p⟩ := p
  obtain ⟨a, xs, rfl, g1, g2⟩ := Rep.lst_ c1 r1 hd
  refine ⟨a, xs, rfl, SqL.of g1, fun q hq => ?_⟩
  exact k _ _ A1 _ Δ1 (e1.trans (Ext.new hq)) (c1.new hq) (.lst upd_same (c1.fresh hq) (c1.aside hq) (g2.reverse.ext (Ext.new hq))) p
/-- a list or a tuple is walked -/
def ziOr (a b : ZI) : ZI := fun Γ Δ P => a Γ Δ P ∨ b Γ Δ P
theorem iz_or {tg iter : Expr} {a b : ZI} (ha : IZ C X tg iter a) (hb : IZ C X tg iter b) : IZ C X tg iter (ziOr a b) := by
  obtain ⟨t, h1, h2⟩ := ha.ex
  obtain ⟨u, g1, g2⟩ := hb.ex
  refine ⟨fun σ H R => t σ H R ∨ u σ H R, ⟨fun pins s σ H R I h => h.elim (h1.run pins s σ H R I) (g1.run pins s σ H R I)⟩, fun S A σ H Γ Δ P R hs hc hz k => ?_⟩
  rcases hz with hz | hz
  · exact .inl (h2 S A σ H Γ Δ P R hs hc hz k)
  · exact .inr (g2 S A σ H Γ Δ P R hs hc hz k)
theorem iz_seq {tg iter : Expr} {z : ZE} (h : EZ C X iter z) : IZ C X tg iter (ziOr (ziList z) (ziTup z)) := iz_or (iz_list h) (iz_tup h)

/-! ### an own == -/
def plainTys : List String := ["NoneType", "bool", "int", "str", "tuple", "list"]
/-- what the class has that its own == is asked first -/
structure EqO (K : PySem.W.Frag) (Ca f : Addr) : Prop where
  at_ : PySem.W.findIn K (.ref Ca) "__eq__" = some (some (.ref f))
  fn : PySem.W.isFn K (.ref f) = true
  first : ∀ n ∈ plainTys, PySem.W.notFirst K Ca (.type n) = true
  isi : Isi K Ca
def zEqO (C : CI) (c : Nat) (W : ZRC) : ZR2 := fun x y Δ P => insD Δ c x ∧ (∃ t, tyD C Δ y = some t ∧ (t = .ref (C.adr c) ∨ ∃ n, n ∈ plainTys ∧ t = .type n)) ∧ W [x, y] Δ fun d Δ' => ∃ b, d = .bl b ∧ P (.bl b) Δ'
theorem oz_eqO {c k : Nat} {f : Addr} {fd : FuncData} {ps : List Str} {W : ZRC} (F : FnOk X.prog X.w X.K X.mg X.base CX0 k f fd ps (SpZ X.K C W)) (hr : Room k X.A) (E : EqO X.K (C.adr c) f) (hb : Binds X.K fd ps []) : OpZ C X (compareOp .Eq) (zEqO C c W) := by
  refine ⟨fun x y H Q => ∃ a dx fs t, x = .ref a ∧ H a = some (.ins (C.adr c) dx fs) ∧ TyX X.K H y t ∧ (t = .ref (C.adr c) ∨ ∃ n, n ∈ plainTys ∧ t = .type n) ∧ SpZ X.K C W [x, y] H (fun v H' => ∃ b, v = .bl b ∧ Q (.bl b) H') E0, ?_, ?_⟩
  · intro pins s σ H x y v u Q I rx ry h
    obtain ⟨a, dx, fs, t, rfl, ha, ty, ht, sp⟩ := h
    obtain rfl : v = Value.ref a := rx
    obtain ⟨mA, J, _⟩ := ins_get I.hok ha
    obtain ⟨od, J, _⟩ := J.look
    obtain ⟨P, kx, hp, _⟩ := kit_of I ry ty
    obtain ⟨m, hF⟩ := I.fr
    have hn : PySem.W.notFirst X.K (C.adr c) t = true := by
      rcases ht with rfl | ⟨n, hn, rfl⟩
      · simp [PySem.W.notFirst]
      · exact E.first n hn
    show wpAny _ _ (richCompare .Eq (.ref a) u) _ _ _
    refine PySem.W.cmp_K (op := .Eq) (tb := t) hr.units0 hF I.ok.mod.kin J (kx.ty _ _ I.kIn hp) hn E.at_ E.fn ?_
    have hl := F.len _ _ _ _ sp
    have r2 : Vals [V.ref a, y] [Value.ref a, u] := .cons rfl (.cons ry .nil)
    refine wpAny_call (codeAny_mono (F.run X.A X.stack s H ⟨[.ref a, u], []⟩ [.ref a, u] [.ref a, y] _ _ hr I.env0 (by
      have b := hb s [.ref a, u] I.kIn (by rw [List.append_nil]; exact hl)
      rw [List.append_nil] at b
      exact b) r2 sp) fun r s' hq => ?_)
    match r, hq with
    | .error e, hq => exact hq.elim
    | .ok .next, hq => exact False.elim hq
    | .ok .brk, hq => exact False.elim hq
    | .ok .cont, hq => exact False.elim hq
    | .ok (.ret w), hq =>
      obtain ⟨z, H', I', rz, b, ez, q⟩ := I.after hq
      subst ez
      cases rz
      exact ⟨.bl b, H', I', rfl, q⟩
  · intro S A H Δ x y dx dy P Q hc rx ry hz k
    obtain ⟨hi, ⟨t, ht, ht2⟩, w⟩ := hz
    obtain ⟨a, dx, fs, rfl, g1⟩ := rx.inst hc hi
    refine ⟨a, dx, fs, t, rfl, g1, ry.tyX hc ht fun Ca e => ?_, ht2, S, A, Δ, _, _, .cons rx (.cons ry .nil), hc, w, fun v d A' H' Δ' e2 c2 r2 p2 => ?_⟩
    · rcases ht2 with h | ⟨n, _, h⟩
      · rw [h] at e; cases e; exact E.isi
      · rw [h] at e; cases e
    · obtain ⟨b, rfl, p2⟩ := p2
      cases r2
      exact ⟨b, rfl, k _ _ A' H' Δ' e2 c2 (.bl b) p2⟩
def zEqA (C : CI) (c : Nat) (W : ZRC) : ZR2 := fun x y Δ P => zEq x y Δ P ∨ zEqO C c W x y Δ P
theorem oz_eqA {c k : Nat} {f : Addr} {fd : FuncData} {ps : List Str} {W : ZRC} (F : FnOk X.prog X.w X.K X.mg X.base CX0 k f fd ps (SpZ X.K C W)) (hr : Room k X.A) (E : EqO X.K (C.adr c) f) (hb : Binds X.K fd ps []) : OpZ C X (compareOp .Eq) (zEqA C c W) := by
  obtain ⟨r, h1, h2⟩ := (oz_eq (C := C) (X := X) hr.units).ex
  obtain ⟨r', h1', h2'⟩ := (oz_eqO (C := C) (X := X) F hr E hb).ex
  refine ⟨_, OpR.or h1 h1', fun S A H Δ x y dx dy P Q hc rx ry hz k => ?_⟩
  rcases hz with hz | hz
  · exact .inl (h2 S A H Δ x y dx dy P Q hc rx ry hz k)
  · exact .inr (h2' S A H Δ x y dx dy P Q hc rx ry hz k)
end
end Z

/-! Z8: defs with defaults, results that are cells, cells that are frozen, the law's end. -/
namespace Z
open PySem PySem.Spec PyProof.Rows L2

/-- a def as it stands behind the top, whatever its defaults -/
structure FunZ (K : PySem.W.Frag) (x qual : Str) (st : Stmt) (f : Addr) (fd : FuncData) : Prop where
  ex : ∃ (oc : Value) (od : Option Addr) (dV kV doc pm : Value) (an : Option Addr) (cdv ct : Value) (osl : Array (Option Value)),
    fd = PySem.W.fnOf x qual (defArgs st) (defBody st) (defScope st) dV kV doc pm an cdv ct ∧ K.lookup f = some ⟨oc, od, .func fd, osl⟩ ∧ PySem.W.codeIn K cdv qual = true
  kp : PySem.W.keepIn K (.ref f) = true
theorem Fun.z {K : PySem.W.Frag} {x qual : Str} {st : Stmt} {f : Addr} {fd : FuncData} (F : Fun K x qual st f fd) : FunZ K x qual st f fd := by
  obtain ⟨oc, od, kV, doc, pm, an, cdv, ct, osl, h1, h2, h3⟩ := F.ex
  exact ⟨⟨oc, od, _, kV, doc, pm, an, cdv, ct, osl, h1, h2, h3⟩, F.kp⟩
theorem FunD.z {K : PySem.W.Frag} {x qual : Str} {st : Stmt} {f : Addr} {fd : FuncData} {dvs : List V} {kws : List (Str × V)} (F : FunD K x qual (defArgs st) (defBody st) (defScope st) dvs kws f fd) : FunZ K x qual st f fd := by
  obtain ⟨oc, od, dV, kV, doc, pm, an, cdv, ct, osl, h1, h2, h3, _⟩ := F.ex
  exact ⟨⟨oc, od, dV, kV, doc, pm, an, cdv, ct, osl, h1, h2, h3⟩, F.kp⟩
section
variable {P : Program} {w : World} {K : PySem.W.Frag} {mg : Str → Option Value} {base : Heap} {C : CI} {k : Nat} {f : Addr} {fd : FuncData} {ps : List Str} {W : ZRC}
theorem fnz_okZ {y qual : Str} {st : Stmt} {N : List Str} (F : FunZ K y qual st f fd) (Sc : FnScope N ps (defScope st)) (len : ∀ ds Δ P, W ds Δ P → ds.length = ps.length)
    (body : ∀ (cdv : Value) (A : Around) (outer : List PySem.Env) (s : Shared) (H : Hp) (E : XK), Room k (A.deeper (PyProof.Rows.envOfC qual (defScope st) s.heap.objs.size f cdv)) →
      ∃ z : ZS, SZs C (cxOf CX0 P w K mg base N qual (defScope st) f cdv A outer s H E).nox (defBody st) z ∧ ∀ ds Δ P, W ds Δ P → z { nx := fun _ Δ' => P .non Δ', rt := P } (startZ N ds) Δ) : FnOk P w K mg base CX0 (k + 1) f fd ps (SpZ K C W) := by
  obtain ⟨oc, od, dV, kV, doc, pm, an, cdv, ct, osl, rfl, lk, hcd⟩ := F.ex
  refine fn_of lk hcd Sc (fun vs H Q E h => ?_) (fun A outer s H vs Q E hr h => ?_)
  · obtain ⟨S, A, Δ, ds, P, r, _, hw, _⟩ := h
    rw [r.length]
    exact len ds Δ P hw
  · obtain ⟨S, A', Δ, ds, P', r, hc, hw, kk⟩ := h
    obtain ⟨z, hz, hzz⟩ := body cdv A outer s H E hr
    obtain ⟨ts, h1, h2⟩ := hz.ex
    refine ⟨ts, h1.nox, h2 S A' _ H (startZ N ds) Δ { nx := fun _ Δ' => P' .non Δ', rt := P' } _ (slots_start r) hc (hzz ds Δ P' hw) ⟨?_, ?_, ?_, ?_⟩⟩
    · exact fun σ' A2 H2 Γ2 Δ2 e2 s2 c2 q => kk .non .non A2 H2 Δ2 e2 c2 .non q
    · exact fun σ' A2 H2 Γ2 Δ2 e2 s2 c2 q => q.elim
    · exact fun σ' A2 H2 Γ2 Δ2 e2 s2 c2 q => q.elim
    · exact fun v d A2 H2 Δ2 e2 c2 r2 q => kk v d A2 H2 Δ2 e2 c2 r2 q

/-! ### a new list that the caller never changes -/
theorem Cells.freezeL {K : PySem.W.Frag} {C : CI} {S A : List Addr} {H H0 : Hp} {Δ : Store} {x : Addr} {es : List D} (c1 : Cells K C S A H0 Δ) (hc : Cells K C S (A ++ [x]) H (Δ ++ [.lst es])) (hb : belowL A.length es = true) : Cells K C S A H Δ ∧ Rep K C S A H (.ref x) (.lst es) := by
  have lenΔ := c1.len
  refine ⟨⟨c1.len, c1.nd, c1.dj, hc.as, fun n a o h1 h2 => ?_⟩, ?_⟩
  · have hn : n < A.length := (List.getElem?_eq_some_iff.mp h1).1
    have q := hc.at_ n a o (by rw [List.getElem?_append_left hn]; exact h1) (by rw [List.getElem?_append_left (by rw [← lenΔ]; exact hn)]; exact h2)
    have q0 := c1.at_ n a o h1 h2
    cases o with
    | lst ds =>
      obtain ⟨xs, g1, g2⟩ := q
      obtain ⟨_, _, g3⟩ := q0
      exact ⟨xs, g1, RepL.drop_ ds (RepL.blw ds g3) g2⟩
    | ins c fs =>
      obtain ⟨dx, xs, g1, g2, g3⟩ := q
      obtain ⟨_, _, _, _, g4⟩ := q0
      exact ⟨dx, xs, g1, g2, RepL.drop_ _ (RepL.blw _ g4) g3⟩
    | dct ks ds =>
      obtain ⟨xs, g1, g2, g3⟩ := q
      obtain ⟨_, _, _, g4⟩ := q0
      exact ⟨xs, g1, g2, RepL.drop_ _ (RepL.blw _ g4) g3⟩
  · have q := hc.at_ A.length x (.lst es) (by rw [List.getElem?_append_right (Nat.le_refl _), Nat.sub_self] <;> rfl) (by rw [lenΔ, List.getElem?_append_right (Nat.le_refl _), Nat.sub_self] <;> rfl)
    obtain ⟨xs, g1, g2⟩ := q
    have hx : x ∉ A := fun h => by
      have := List.nodup_append.mp hc.nd
      exact this.2.2 x h x (by simp) rfl
    exact .lst g1 hx (hc.dj x (by simp)) (RepL.drop_ es hb g2)
def frz (W : ZRC) : ZRC := fun ds Δ P => W ds Δ fun d Δ' => ∃ es, d = .cell Δ.length ∧ Δ' = Δ ++ [.lst es] ∧ belowL Δ.length es = true ∧ P (.lst es) Δ
theorem sp_frz {vs : List V} {H : Hp} {Q : VK} {E : XK} (h : SpZ K C (frz W) vs H Q E) : SpZ K C W vs H Q E := by
  obtain ⟨S, A, Δ, ds, P, r, hc, hw, kk⟩ := h
  refine ⟨S, A, Δ, ds, _, r, hc, hw, fun v d A' H' Δ' e c r' q => ?_⟩
  obtain ⟨es, rfl, rfl, hb, p⟩ := q
  cases r' with
  | cell g =>
    rename_i x
    have hA' : A' = A ++ [x] := by
      obtain ⟨B, hB, _⟩ := e.pre
      have hlen := c.len
      have hl1 : ([O.lst es] : List O).length = 1 := rfl
      rw [hB, List.length_append, List.length_append, hc.len, hl1] at hlen
      have hB1 : B.length = 1 := by omega
      obtain ⟨b, hb1⟩ := List.length_eq_one_iff.mp hB1
      rw [hB, hb1, ← hc.len, List.getElem?_append_right (Nat.le_refl _), Nat.sub_self] at g
      cases g
      rw [hB, hb1]
    subst hA'
    obtain ⟨c5, r5⟩ := hc.freezeL c (by rw [hc.len]; exact hb)
    exact kk _ _ A H' Δ ⟨⟨[], by simp, by simp⟩, fun a o h1 h2 => e.keep a o h1 h2, e.trk⟩ c5 r5 p
theorem fn_frz (F : FnOk P w K mg base CX0 k f fd ps (SpZ K C W)) : FnOk P w K mg base CX0 k f fd ps (SpZ K C (frz W)) := F.imp fun _ _ _ _ h => sp_frz h
end
section
variable {C : CI} {X : Cx}
/-- new lists that are changed later -/
def zRepeatC : ZR2 := fun x y Δ P => ∃ ds k, lstD Δ x = some ds ∧ y = .int k ∧ -(2 ^ 63) ≤ k ∧ k < 2 ^ 63 ∧ ds.length * k.toNat ≤ 100000 ∧ P (.cell Δ.length) (Δ ++ [.lst (List.replicate k.toNat ds).flatten])
theorem oz_repC : OpZ C X (binaryOp .Mult) zRepeatC := ⟨_, op_rep, fun S A H Δ x y dx dy P Q hc rx ry hz k => by
  obtain ⟨ds, i, h1, rfl, h2, h3, hl, p⟩ := hz
  obtain ⟨a, xs, rfl, g1, g2⟩ := Rep.lst_ hc rx h1
  cases ry
  refine ⟨a, i, xs, rfl, rfl, g1, h2, h3, sz100 (by rw [g2.length]; exact hl), fun q hq => ?_⟩
  refine k _ _ (A ++ [q]) _ _ (Ext.newCell hq) (hc.newCell hq (g2.repl _)) (.cell ?_) p
  rw [← hc.len, List.getElem?_append_right (Nat.le_refl _), Nat.sub_self]
  rfl⟩
def zCatC : ZR2 := fun x y Δ P => ∃ ds es, lstD Δ x = some ds ∧ lstD Δ y = some es ∧ ds.length + es.length ≤ 100000 ∧ P (.cell Δ.length) (Δ ++ [.lst (ds ++ es)])
theorem oz_catC : OpZ C X (binaryOp .Add) zCatC := ⟨_, op_cat, fun S A H Δ x y dx dy P Q hc rx ry hz k => by
  obtain ⟨ds, es, h1, h2, hl, p⟩ := hz
  obtain ⟨a, xs, rfl, g1, g2⟩ := Rep.lst_ hc rx h1
  obtain ⟨b, ys, rfl, g3, g4⟩ := Rep.lst_ hc ry h2
  refine ⟨a, b, xs, ys, rfl, rfl, g1, g3, sz100 (by rw [g2.length, g4.length]; exact hl), fun q hq => ?_⟩
  refine k _ _ (A ++ [q]) _ _ (Ext.newCell hq) (hc.newCell hq (g2.append g4)) (.cell ?_) p
  rw [← hc.len, List.getElem?_append_right (Nat.le_refl _), Nat.sub_self]
  rfl⟩
end
theorem walkZ {l : PySem.W.OpenLaw} {n k : Nat} {q : Program} {loose : List Str} {XP : (Str → Option Value) → Heap → Prop} {YP : World → Heap → Prop} {d : DefRec} {K : Params → PySem.W.Frag} {x : Str}
    (hn : l.most = some n) (hn2 : n ≤ sizeLine) (hdf : d.params.defaults = []) (hr : Room k callerA) (hY : ∀ (w : World) (h : Heap), YP w h → (K w.params).In h)
    (F : ∀ (w : World) (mg : Str → Option Value) (fa : Addr) (h : Heap), (K w.params).In h → h.Ns mainGlobals mg → mg d.name = some (.ref fa) →
      ∃ (fd : FuncData) (C : CI) (W : ZRC), (∀ (s : Shared) (u : Value), BindsTo s fd ⟨[u], []⟩ [(x, u)]) ∧ (∀ base : Heap, (K w.params).In base → base.Ns mainGlobals mg → FnG l.prog w (K w.params) mg base k fa fd [x] (SpZ (K w.params) C W)) ∧
        ∀ ns : List Int, ns.length ≤ n → W [.scr ns] [] fun d _ => d = .bl true) : PySem.W.WalkO q loose XP YP l.row.toRowW d [] (fun f vs => PySem.call f vs) := by
  refine Att.attach_call hn hdf fun w s₀ s₁ mg mb fa o pm cd doc a vs ns G Y ho hd hcd hmg hobj hints hlen hg => ?_
  obtain ⟨fd, C, W, hb, hF, hW⟩ := F w mg fa _ (hY w _ Y) G.T.g hmg
  exact law_callG (hY w _ Y) G.T.g G.T.b G.T.builtins G.T.nolimit hg hobj hints (Nat.le_trans hlen hn2) hr hF hb (hW ns hlen)
end Z

/-! M1: evaluating readings over data; loops and comprehensions over lists of data. -/
namespace Z
open PySem PySem.Spec PyProof.Rows L2

theorem at0 {α : Type} {a : α} {l : List α} : atI (a :: l) 0 = some a := atI_nat (j := 0) rfl
theorem at1 {α : Type} {a b : α} {l : List α} : atI (a :: b :: l) 1 = some b := atI_nat (j := 1) rfl
theorem at2 {α : Type} {a b c : α} {l : List α} : atI (a :: b :: c :: l) 2 = some c := atI_nat (j := 2) rfl
theorem at3 {α : Type} {a b c d : α} {l : List α} : atI (a :: b :: c :: d :: l) 3 = some d := atI_nat (j := 3) rfl
theorem at4 {α : Type} {a b c d e : α} {l : List α} : atI (a :: b :: c :: d :: e :: l) 4 = some e := atI_nat (j := 4) rfl
theorem atN {α : Type} {l : List α} {i : Int} (h0 : 0 ≤ i) (h1 : i < l.length) : ∃ d, l[i.toNat]? = some d ∧ atI l i = some d := by
  have hl : i.toNat < l.length := by omega
  refine ⟨l[i.toNat], List.getElem?_eq_getElem hl, ?_⟩
  have e : ((i.toNat : Nat) : Int) = i := by omega
  have q := atI_nat (xs := l) (j := i.toNat) (List.getElem?_eq_getElem hl)
  rw [e] at q
  exact q
theorem ix0 {n : Nat} (h : 0 < n) : ixN n 0 = some 0 := by unfold ixN; rw [if_pos (by decide), if_pos (by omega)]; rfl
theorem ix2_3 : ixN 3 2 = some 2 := by decide
theorem ix0_3 : ixN 3 0 = some 0 := by decide
theorem isNon_int (i : Int) : Z.isNon (.int i) = false := rfl
theorem isNon_non : Z.isNon .non = true := rfl
theorem dec_not {p : Prop} [Decidable p] : (decide p = false) = ¬ p := by simp
theorem dec_yes {p : Prop} [Decidable p] : (decide p = true) = p := by simp
theorem t_t : (true = true) = True := by simp
theorem t_f : (true = false) = False := by simp
theorem f_t : (false = true) = False := by simp
theorem f_f : (false = false) = True := by simp

local macro_rules | `(tactic| walk_at "zm") => `(tactic| simp only [zSeq, zAsg, zRet, zRetN, zIfS, zNext, zDrop, zPar, zVar, zC, zOp, zUn, zNeg, zI0, zI, zTest, zAnd, zOr, zNot, zAndV, zOrV, zNotV, zIf, zNil, zCons, zTup, zLst, zLstC, zgName, zgTup, zgCons, zgNil, zgSub, startZ, zCall, zCB, zChain, zIsN, zNotN, zNever,
  zAddA, zMulA, zRepeat, zCat, zIx, seqD, lstD, zMax2, zMin2, zAbs, zLen, zSum, zGcd, zInt, zYes, zBreak, zCont,
  at0, at1, at2, at3, at4, ix2_3, ix0_3, isNon_int, isNon_non, Bool.not_true, Bool.not_false,
  List.map_cons, List.map_nil, List.length_cons, List.length_nil, List.replicate_succ, List.replicate_zero, List.append_nil, List.nil_append, List.cons_append, List.getElem?_cons_zero, List.getElem?_cons_succ, List.set_cons_zero, List.set_cons_succ,
  Option.some.injEq, D.int.injEq, D.bl.injEq, D.tup.injEq, D.lst.injEq, D.str.injEq, D.cell.injEq, O.lst.injEq, reduceCtorEq, exists_eq_left', exists_eq_left, false_and, and_false, true_and, and_true, exists_false, or_false, false_or, exists_and_left, exists_eq', exists_and_right, List.cons.injEq, dec_not, dec_yes, t_t, t_f, f_t, f_f, true_implies, false_implies, implies_true, and_self, Nat.reduceAdd, Nat.reduceLeDiff, Nat.reduceSub, Nat.reduceLT])

/-! ### loops -/
/-- a for: an invariant over the number of items behind, the slots and the store -/
theorem loop_inv {body : D → ZS} {Z : ZEnds} (I : Nat → Env → Store → Prop) : ∀ (xs : List D) (k : Nat) (Γ : Env) (Δ : Store), I k Γ Δ →
    (∀ i x Γ Δ (Z' : ZEnds), xs[i]? = some x → I (k + i) Γ Δ → (∀ Γ' Δ', I (k + i + 1) Γ' Δ' → Z'.nx Γ' Δ') → (∀ Γ' Δ', I (k + i + 1) Γ' Δ' → Z'.ct Γ' Δ') → Z'.rt = Z.rt → Z'.bk = Z.nx → body x Z' Γ Δ) →
    (∀ Γ Δ, I (k + xs.length) Γ Δ → Z.nx Γ Δ) → loopZ body Z xs Γ Δ
  | [], k, Γ, Δ, h0, _, hd => hd Γ Δ h0
  | x :: xs, k, Γ, Δ, h0, hs, hd => by
    have tail : ∀ Γ' Δ', I (k + 0 + 1) Γ' Δ' → loopZ body Z xs Γ' Δ' := fun Γ' Δ' h => loop_inv I xs (k + 1) Γ' Δ' h
      (fun i y Γ Δ Z' hy hi hn hc => hs (i + 1) y Γ Δ Z' (by simpa using hy) (by rw [show k + (i + 1) = k + 1 + i by omega]; exact hi) (fun Γ' Δ' q => hn Γ' Δ' (by rw [show k + 1 + i + 1 = k + (i + 1) + 1 by omega]; exact q)) (fun Γ' Δ' q => hc Γ' Δ' (by rw [show k + 1 + i + 1 = k + (i + 1) + 1 by omega]; exact q)))
      (fun Γ Δ q => hd Γ Δ (by rw [show k + (x :: xs).length = k + 1 + xs.length by rw [List.length_cons]; omega]; exact q))
    exact hs 0 x Γ Δ { Z with nx := loopZ body Z xs, ct := loopZ body Z xs, bk := Z.nx } rfl h0 tail tail rfl rfl
/-- the same where the number of turns does not matter -/
theorem loop_all {body : D → ZS} {Z : ZEnds} (I : Env → Store → Prop) {xs : List D} {Γ : Env} {Δ : Store} (h0 : I Γ Δ)
    (hs : ∀ x Γ Δ (Z' : ZEnds), x ∈ xs → I Γ Δ → (∀ Γ' Δ', I Γ' Δ' → Z'.nx Γ' Δ') → (∀ Γ' Δ', I Γ' Δ' → Z'.ct Γ' Δ') → Z'.rt = Z.rt → Z'.bk = Z.nx → body x Z' Γ Δ)
    (hd : ∀ Γ Δ, I Γ Δ → Z.nx Γ Δ) : loopZ body Z xs Γ Δ :=
  loop_inv (fun _ => I) xs 0 Γ Δ h0 (fun _ x Γ Δ Z' hx => hs x Γ Δ Z' (List.mem_of_getElem? hx)) hd
/-! ### comprehensions -/
/-- each item gives f of it, the store stays -/
theorem comp_map {zg : ZG} {ze : ZE} {Γ0 : Env} {P : D → Store → Prop} {Δ : Store} {α : Type} {g : α → D} {f : α → D} : ∀ (xs : List α) (acc : List D), acc.length + xs.length ≤ 100000 →
    (∀ x ∈ xs, ∀ Q : D → Store → Prop, Q (f x) Δ → zg (g x) Γ0 Δ fun Γ2 Δ2 => ze Γ2 Δ2 Q) → P (.lst (acc ++ xs.map f)) Δ → compZ zg zYes ze Γ0 P (xs.map g) acc Δ
  | [], acc, _, _, h => by simpa [compZ] using h
  | x :: xs, acc, hl, hs, h => by
    have ih : compZ zg zYes ze Γ0 P (xs.map g) (acc ++ [f x]) Δ := comp_map xs (acc ++ [f x]) (by simp at hl ⊢; omega) (fun y hy => hs y (List.mem_cons_of_mem _ hy)) (by simpa using h)
    show zg (g x) Γ0 Δ fun Γ2 Δ2 => (true = true → ze Γ2 Δ2 fun y Δ4 => acc.length < 100000 ∧ compZ zg zYes ze Γ0 P (xs.map g) (acc ++ [y]) Δ4) ∧ (true = false → compZ zg zYes ze Γ0 P (xs.map g) acc Δ2)
    simp only [true_implies, reduceCtorEq, false_implies, and_true]
    exact hs x List.mem_cons_self _ ⟨by simp at hl; omega, ih⟩
end Z

/-! Z9: a call that is given a cell's content: the def neither changes nor keeps the cell. -/
namespace Z
open PySem PySem.Spec PyProof.Rows L2
section
variable {K : PySem.W.Frag} {C : CI} {S A : List Addr} {H : Hp} {Δ : Store}
mutual
theorem Rep.bare : ∀ (d : D) {v : V}, below 0 d = true → Rep K C S A H v d → Rep K C S [] H v d
  | .non, _, _, h => by cases h; exact .non
  | .bl b, _, _, h => by cases h; exact .bl b
  | .int i, _, _, h => by cases h; exact .int i
  | .str x, _, _, h => by cases h; exact .str x
  | .ty n, _, _, h => by cases h; exact .ty n
  | .cls c, _, _, h => by cases h; exact .cls c
  | .tup ds, _, hb, h => by cases h with | tup h hA hS r => exact .tup h (fun q => nomatch q) hS (RepL.bare ds hb r)
  | .lst ds, _, hb, h => by cases h with | lst h hA hS r => exact .lst h (fun q => nomatch q) hS (RepL.bare ds hb r)
  | .ins c ds, _, hb, h => by cases h with | ins h hA hS hl r => exact .ins h (fun q => nomatch q) hS hl (RepL.bare ds hb r)
  | .dct ks ds, _, hb, h => by cases h with | dct h hA hS hl r => exact .dct h (fun q => nomatch q) hS hl (RepL.bare ds hb r)
  | .cell n, _, hb, h => by have := of_decide_eq_true (p := n < 0) hb; omega
  | .scr ns, _, _, h => by
    cases h with
    | scr h =>
      rcases h with ⟨h, hA, hS⟩ | h
      · exact .scr (.inl ⟨h, (fun q => nomatch q), hS⟩)
      · exact .scr (.inr h)
theorem RepL.bare : ∀ (ds : List D) {vs : List V}, belowL 0 ds = true → RepL K C S A H vs ds → RepL K C S [] H vs ds
  | [], _, _, h => by cases h; exact .nil
  | d :: ds, _, hb, h => by
    have hb' : (below 0 d && belowL 0 ds) = true := hb
    rw [Bool.and_eq_true] at hb'
    cases h with
    | cons h r => exact .cons (Rep.bare d hb'.1 h) (RepL.bare ds hb'.2 r)
end
/-- a cell that holds a list, read -/
def thaw (Δ : Store) : D → D
  | .cell n => match Δ[n]? with
    | some (.lst ds) => .lst ds
    | _ => .cell n
  | d => d
theorem Rep.thw (hc : Cells K C S A H Δ) : ∀ (d : D) {v : V}, Z.below 0 (Z.thaw Δ d) = true → Rep K C S A H v d → Rep K C S [] H v (Z.thaw Δ d)
  | .cell n, v, hb, h => by
    unfold Z.thaw at hb ⊢
    cases q : Δ[n]? with
    | none => simp only [q] at hb; have := of_decide_eq_true (p := n < 0) hb; omega
    | some o =>
      cases o with
      | ins c fs => simp only [q] at hb; have := of_decide_eq_true (p := n < 0) hb; omega
      | dct ks fs => simp only [q] at hb; have := of_decide_eq_true (p := n < 0) hb; omega
      | lst ds =>
        simp only [q] at hb ⊢
        cases h with
        | cell e =>
          obtain ⟨xs, h1, h2⟩ := hc.at_ n _ _ e q
          exact .lst h1 (fun q => nomatch q) (hc.dj _ (List.mem_of_getElem? e)) (RepL.bare ds hb h2)
  | .non, _, hb, h => Rep.bare .non hb h
  | .bl b, _, hb, h => Rep.bare (.bl b) hb h
  | .int i, _, hb, h => Rep.bare (.int i) hb h
  | .str x, _, hb, h => Rep.bare (.str x) hb h
  | .ty n, _, hb, h => Rep.bare (.ty n) hb h
  | .cls c, _, hb, h => Rep.bare (.cls c) hb h
  | .tup ds, _, hb, h => Rep.bare (.tup ds) hb h
  | .lst ds, _, hb, h => Rep.bare (.lst ds) hb h
  | .ins c ds, _, hb, h => Rep.bare (.ins c ds) hb h
  | .scr ns, _, hb, h => Rep.bare (.scr ns) hb h
  | .dct ks ds, _, hb, h => Rep.bare (.dct ks ds) hb h
theorem RepL.thw (hc : Cells K C S A H Δ) : ∀ (ds : List D) {vs : List V}, Z.belowL 0 (ds.map (Z.thaw Δ)) = true → RepL K C S A H vs ds → RepL K C S [] H vs (ds.map (Z.thaw Δ))
  | [], _, _, h => by cases h; exact .nil
  | d :: ds, _, hb, h => by
    have hb' : (Z.below 0 (Z.thaw Δ d) && Z.belowL 0 (ds.map (Z.thaw Δ))) = true := hb
    rw [Bool.and_eq_true] at hb'
    cases h with
    | cons h r => exact .cons (Rep.thw hc d hb'.1 h) (RepL.thw hc ds hb'.2 r)
/-- a value that stands nowhere -/
def bareD : D → Bool
  | .non | .bl _ | .int _ | .str _ => true
  | _ => false
theorem Rep.of_bare {A' : List Addr} {v : V} {d : D} (hb : bareD d = true) (h : Rep K C S A' H v d) : Rep K C S A H v d := by
  cases h with
  | non => exact .non
  | bl b => exact .bl b
  | int i => exact .int i
  | str x => exact .str x
  | _ => cases hb
end
def zCallB (W : ZRC) (za : ZA) : ZE := fun Γ Δ P => za Γ Δ fun ds Δ1 => Z.belowL 0 (ds.map (Z.thaw Δ1)) = true ∧ W (ds.map (Z.thaw Δ1)) [] fun d _ => bareD d = true ∧ P d Δ1
section
variable {C : CI} {X : Cx} {e : Expr} {es : List Expr} {za : ZA} {pos p : Pos} {x : Str} {k : Nat} {f : Addr} {fd : FuncData} {ps : List Str} {W : ZRC}
theorem ref_callB {K : PySem.W.Frag} {ta : TA} {E : XK} (ha : RefA K C ta za) : RefE K C (tCall (SpZ K C W) [] E ta) (zCallB W za) := fun S A σ H Γ Δ P Q hs hc hz k =>
  ha S A σ H Γ Δ _ _ hs hc hz fun vs ds A1 H1 Δ1 e1 c1 r1 p => by
    obtain ⟨hb, p⟩ := p
    refine ⟨S, [], [], ds.map (Z.thaw Δ1), _, ?_, ⟨rfl, .nil, (fun a ha => nomatch ha), c1.as, (fun n a o h => nomatch h)⟩, p, fun v d A' H' Δ' e2 c2 r2 p2 => ?_⟩
    · rw [List.append_nil]; exact RepL.thw c1 ds hb r1
    · have kp : ∀ a o, H1 a = some o → H' a = some o := fun a o h => e2.keep a o (fun q => nomatch q) h
      exact k v d A1 H' Δ1 (e1.trans (Ext.kept kp)) (c1.kept kp) (r2.of_bare p2.1) p2.2
theorem ez_callb (F : FnOk X.prog X.w X.K X.mg X.base CX0 k f fd ps (SpZ X.K C W)) (hr : Room k X.A) (hm : X.mg x = some (.ref f)) (hk : PySem.W.keepIn X.K (.ref f) = true) (hb : Binds X.K fd ps [])
    (ha : AZ C X (e :: es) za) (hg : Gl X x := by rfl) (hdb : (x == ("__debug__" : Str)) = false := by decide) (he : starEach (e :: es) X.env = (false, eval e X.env) :: starEach es X.env := by rfl) (hpl : (backTo pos (starEach es X.env)).any (·.1) = false := by rfl) :
    EZ C X (.Call (.Name x p) (e :: es) [] pos) (zCallB W za) := by
  obtain ⟨t, a1, a2⟩ := ha.ex
  exact ⟨_, pe_call F hr hg hm hk hb .nil pass0 a1 hdb he hpl, ref_callB a2⟩
end
end Z

/-! Z10: an instance made by a call with keywords; a tuple's cut. -/
namespace Z
open PySem PySem.Spec PyProof.Rows L2
/-- where a parameter's value comes from: the i-th default, the j-th keyword -/
inductive Pk where
  | d (i : Nat)
  | k (j : Nat)
def picked {α : Type} (its ws : List α) : List Pk → List α
  | [] => []
  | .d i :: r => its[i]?.toList ++ picked its ws r
  | .k j :: r => ws[j]?.toList ++ picked its ws r
theorem Vals.opt {vs : List V} {us : List Value} (r : Vals vs us) (i : Nat) : Vals (vs[i]?.toList) (us[i]?.toList) := by
  induction r generalizing i with
  | nil => simp only [List.getElem?_nil, Option.toList_none]; exact .nil
  | cons h r ih =>
    cases i with
    | zero => exact .cons h .nil
    | succ i => exact ih i
theorem Vals.picked {vs zs : List V} {us ws : List Value} (r : Vals vs us) (r2 : Vals zs ws) : ∀ l : List Pk, Vals (Z.picked vs zs l) (Z.picked us ws l)
  | [] => .nil
  | .d i :: l => (Vals.opt r i).append (Vals.picked r r2 l)
  | .k j :: l => (Vals.opt r2 j).append (Vals.picked r r2 l)
section
variable {K : PySem.W.Frag} {C : CI} {S A : List Addr} {H : Hp}
theorem RepL.opt : ∀ {vs : List V} {ds : List D} (r : RepL K C S A H vs ds) (i : Nat), RepL K C S A H (vs[i]?.toList) (ds[i]?.toList)
  | _, _, .nil, i => by simp only [List.getElem?_nil, Option.toList_none]; exact .nil
  | _, _, .cons h r, 0 => .cons h .nil
  | _, _, .cons h r, i + 1 => RepL.opt r i
theorem RepL.picked {vs zs : List V} {us ws : List D} (r : RepL K C S A H vs us) (r2 : RepL K C S A H zs ws) : ∀ l : List Pk, RepL K C S A H (Z.picked vs zs l) (Z.picked us ws l)
  | [] => .nil
  | .d i :: l => (RepL.opt r i).append (RepL.picked r r2 l)
  | .k j :: l => (RepL.opt r2 j).append (RepL.picked r r2 l)
end
/-- no built-in type's value is an instance of an own class -/
theorem kit_no {K : PySem.W.Frag} {n : String} {Ca : Addr} (h1 : PySem.W.isClsIn K Ca = true) (h2 : PySem.W.typeIn K (.ref Ca) = some (.type "type")) (h3 : PySem.W.notFirst K Ca (.type n) = true) : PySem.W.kitOne K (.type n) (.ref Ca) = some false := by
  have e : (Value.type n == Value.ref Ca) = false := rfl
  unfold PySem.W.notFirst at h3
  rw [e, Bool.false_or] at h3
  unfold PySem.W.kitOne PySem.W.kitCls
  rw [e, if_neg (by decide)]
  show (if ((PySem.W.clsIn K Ca).isSome && PySem.W.typeIn K (.ref Ca) == some (.type "type")) = true then _ else none) = _
  rw [if_pos]
  · exact beq_iff_eq.mp h3
  · rw [show (PySem.W.clsIn K Ca).isSome = true from h1, h2]
    exact beq_self_eq_true _
/-- C(e, .., k = v, ..), never changed again -/
def zMakeK (C : CI) (c n m : Nat) (W : ZRC) (dds : List D) (l : List Pk) (za zk : ZA) : ZE := fun Γ Δ P => za Γ Δ fun ds Δ1 => zk Γ Δ1 fun zs Δ2 => ds.length = n ∧ zs.length = m ∧
  W (.cell Δ2.length :: (ds ++ picked dds zs l)) (Δ2 ++ [.ins c []]) fun v Δ3 => v = .non ∧ ∃ es, Δ3 = Δ2 ++ [.ins c ((C.nms c).zip es)] ∧ es.length = (C.nms c).length ∧ belowL Δ2.length es = true ∧ P (.ins c es) Δ2
/-- keywords -/
structure KZ (C : CI) (X : Cx) (kws : List Keyword) (z : ZA) : Prop where
  ex : ∃ t, PK X kws t ∧ RefA X.K C t z
section
variable {C : CI} {X : Cx} {e : Expr} {es : List Expr} {kws : List Keyword} {za zk : ZA} {ze : ZE} {pos p kpos : Pos} {x : Str} {k n : Nat} {f : Addr} {fd : FuncData} {ps ks : List Str} {W : ZRC} {dvs : List V} {dds : List D} {l : List Pk} {nm : Option Str}
theorem kz_nil : KZ C X [] zNil := ⟨_, pk_nil, fun S A σ H Γ Δ P Q hs hc hz k => k [] [] A H Δ (Ext.refl _ _) hc .nil hz⟩
theorem kz_cons (ha : EZ C X e ze) (hr : KZ C X kws zk) : KZ C X (⟨nm, e, kpos⟩ :: kws) (zCons ze zk) := by
  obtain ⟨t, h1, h2⟩ := ha.ex
  obtain ⟨u, g1, g2⟩ := hr.ex
  exact ⟨_, pk_cons h1 g1, fun S A σ H Γ Δ P Q hs hc hz k => h2 S A σ H Γ Δ _ _ hs hc hz fun x dx A1 H1 Δ1 e1 c1 r1 hz1 =>
    g2 S A1 σ H1 Γ Δ1 _ _ (hs.ext e1) c1 hz1 fun vs ds A2 H2 Δ2 e2 c2 r2 p => k _ _ A2 H2 Δ2 (e1.trans e2) c2 (.cons (r1.ext e2) r2) p⟩
theorem ref_makeK {K : PySem.W.Frag} {c m : Nat} {ta tk : TA} {E : XK} (ha : RefA K C ta za) (hk : RefA K C tk zk) (hdd : ∀ S A H, RepL K C S A H dvs dds) : RefE K C (tMakeK (C.adr c) n m (SpZ K C W) (fun vs zs => vs ++ picked dvs zs l) E ta tk) (zMakeK C c n m W dds l za zk) := fun S A σ H Γ Δ P Q hs hc hz k =>
  ha S A σ H Γ Δ _ _ hs hc hz fun vs ds A0 H0 Δ0 e0 c0 r0 p0 => hk S A0 σ H0 Γ Δ0 _ _ (hs.ext e0) c0 p0 fun zs ks A1 H1 Δ1 e01 c1 rk p => by
    obtain ⟨l1, l2, p⟩ := p
    have r1 := r0.ext e01
    have e1 := e0.trans e01
    refine ⟨by rw [r1.length]; exact l1, by rw [rk.length]; exact l2, fun x dx hx hdx hne => ?_⟩
    have hx0 : upd H1 dx (.own x) x = none := by rw [upd_ne (Ne.symm hne)]; exact hx
    have e2 : Ext A1 H1 A1 (upd H1 dx (.own x)) := Ext.new hdx
    have e3 : Ext A1 (upd H1 dx (.own x)) (A1 ++ [x]) (upd (upd H1 dx (.own x)) x (.ins (C.adr c) dx [])) := Ext.newCell hx0
    have e23 := e2.trans e3
    refine ⟨S, A1 ++ [x], Δ1 ++ [.ins c []], .cell Δ1.length :: (ds ++ picked dds ks l), _, .cons (.cell ?_) ((r1.ext e23).append (RepL.picked (hdd _ _ _) (rk.ext e23) l)), (c1.new hdx).newO (o := .ins c []) hx0 ⟨dx, [], upd_same, rfl, .nil⟩, p, fun v d A' H' Δ' e4 c4 r4 p4 => ?_⟩
    · rw [← c1.len, List.getElem?_append_right (Nat.le_refl _), Nat.sub_self] <;> rfl
    · obtain ⟨rfl, es, rfl, hl, hb, p4⟩ := p4
      cases r4
      refine ⟨rfl, ?_⟩
      have hA' : A' = A1 ++ [x] := by
        obtain ⟨B, hB, _⟩ := e4.pre
        have hlen := c4.len
        rw [hB, List.length_append, List.length_append, List.length_append, c1.len] at hlen
        have hB0 : B.length = 0 := by
          have h1 : ([x] : List Addr).length = 1 := rfl
          have h2 : ([O.ins c ((C.nms c).zip es)] : List O).length = 1 := rfl
          omega
        rw [List.length_eq_zero_iff.mp hB0, List.append_nil] at hB
        exact hB
      subst hA'
      obtain ⟨c5, r5⟩ := c1.freeze c4 hl (by rw [c1.len]; exact hb)
      have e14 := e23.trans e4
      refine k _ _ A1 H' Δ1 (e1.trans ⟨⟨[], by simp, by simp⟩, fun a o h1 h2 => e14.keep a o h1 h2, e14.trk⟩) c5 r5 p4
theorem ez_makeK {c : Nat} (M : Mk X.K (C.adr c) f) (F : FnOk X.prog X.w X.K X.mg X.base CX0 k f fd ps (SpZ X.K C W)) (hr : Room (k + 1) X.A) (hm : X.mg x = some (.ref (C.adr c))) (hb : ∃ its : List Value, KBn X.K fd ps (n + 1) ks (fun us ws => us ++ picked its ws l) (fun vs zs => vs ++ picked dvs zs l))
    (hdd : ∀ S A H, RepL X.K C S A H dvs dds) (ha : AZ C X (e :: es) za) (hk : KZ C X kws zk) (hg : Gl X x := by rfl)
    (hall : (backToKw pos (keywordEach kws X.env)).all (·.1.isSome) = true := by rfl) (hks : (backToKw pos (keywordEach kws X.env)).filterMap (·.1) = ks := by rfl) (hdb : (x == ("__debug__" : Str)) = false := by decide)
    (he : starEach (e :: es) X.env = (false, eval e X.env) :: starEach es X.env := by rfl) (hpl : ((backTo pos (starEach (e :: es) X.env)).any (·.1) || (backToKw pos (keywordEach kws X.env)).any (·.1.isNone)) = false := by rfl) :
    EZ C X (.Call (.Name x p) (e :: es) kws pos) (zMakeK C c n ks.length W dds l za zk) := by
  obtain ⟨t, a1, a2⟩ := ha.ex
  obtain ⟨u, k1, k2⟩ := hk.ex
  obtain ⟨its, hb⟩ := hb
  exact ⟨_, pe_makeK M F hr hg hm hb pass0 (E := E0) a1 k1 hall hks hdb he hpl, ref_makeK a2 k2 hdd⟩
theorem ez_makeK0 {c : Nat} (M : Mk X.K (C.adr c) f) (F : FnOk X.prog X.w X.K X.mg X.base CX0 k f fd ps (SpZ X.K C W)) (hr : Room (k + 1) X.A) (hm : X.mg x = some (.ref (C.adr c))) (hb : ∃ its : List Value, KBn X.K fd ps 1 ks (fun us ws => us ++ picked its ws l) (fun vs zs => vs ++ picked dvs zs l))
    (hdd : ∀ S A H, RepL X.K C S A H dvs dds) (hk : KZ C X kws zk) (hg : Gl X x := by rfl)
    (hall : (backToKw pos (keywordEach kws X.env)).all (·.1.isSome) = true := by rfl) (hks : (backToKw pos (keywordEach kws X.env)).filterMap (·.1) = ks := by rfl) (hdb : (x == ("__debug__" : Str)) = false := by decide)
    (hpl : ((backTo pos (starEach [] X.env)).any (·.1) || (backToKw pos (keywordEach kws X.env)).any (·.1.isNone)) = false := by rfl) :
    EZ C X (.Call (.Name x p) [] kws pos) (zMakeK C c 0 ks.length W dds l zNil zk) := by
  obtain ⟨u, k1, k2⟩ := hk.ex
  obtain ⟨its, hb⟩ := hb
  exact ⟨_, pe_makeK0 M F hr hg hm hb pass0 (E := E0) k1 hall hks hdb hpl, ref_makeK (n := 0) (fun S A σ H Γ Δ P Q hs hc hz k => k [] [] A H Δ (Ext.refl _ _) hc .nil hz) k2 hdd⟩
theorem ez_makeD {c : Nat} (M : Mk X.K (C.adr c) f) (F : FnOk X.prog X.w X.K X.mg X.base CX0 k f fd ps (SpZ X.K C W)) (hr : Room (k + 1) X.A) (hm : X.mg x = some (.ref (C.adr c))) (hb : ∃ ts : List Value, Vals dvs ts ∧ Binds X.K fd ps ts) (hdd : ∀ S A H, RepL X.K C S A H dvs dds)
    (ha : AZ C X (e :: es) za) (hg : Gl X x := by rfl) (hdb : (x == ("__debug__" : Str)) = false := by decide) (he : starEach (e :: es) X.env = (false, eval e X.env) :: starEach es X.env := by rfl) (hpl : (backTo pos (starEach es X.env)).any (·.1) = false := by rfl) :
    EZ C X (.Call (.Name x p) (e :: es) [] pos) (zMakeF C c W dds za) := by
  obtain ⟨ts, h1, h2⟩ := hb
  exact ez_makeF M F hr hm h2 h1 hdd ha hg hdb he hpl
/-- t[lo:hi], not the whole of it -/
def zSlT (z : ZE) (zl zh : ZO) : ZE := fun Γ Δ P => z Γ Δ fun x Δ1 => zl Γ Δ1 fun l Δ2 => zh Γ Δ2 fun u Δ3 => ∃ ds, x = .tup ds ∧ ¬ (HT.sIx ds.length 0 l = 0 ∧ HT.sIx ds.length ds.length u = ds.length) ∧ P (.tup (Z.cutD ds l u)) Δ3
theorem ez_slT {a : Expr} {lo hi : Option Expr} {z : ZE} {zl zh : ZO} {p2 : Pos} (ha : EZ C X a z) (hl : OZ C X lo zl) (hh : OZ C X hi zh) : EZ C X (.Subscript a (.Slice lo hi none p2) pos) (zSlT z zl zh) := by
  obtain ⟨t, a1, a2⟩ := ha.ex
  obtain ⟨tl, l1, l2⟩ := hl.ex
  obtain ⟨th, u1, u2⟩ := hh.ex
  refine ⟨_, pe_slice sl_tup a1 l1 u1, fun S A σ H Γ Δ P Q hs hc hz k => a2 S A σ H Γ Δ _ _ hs hc hz fun x dx A1 H1 Δ1 e1 c1 r1 hz1 => ?_⟩
  refine l2 S A1 σ H1 Γ Δ1 _ _ (hs.ext e1) c1 hz1 fun l A2 H2 Δ2 e2 c2 hz2 => u2 S A2 σ H2 Γ Δ2 _ _ ((hs.ext e1).ext e2) c2 hz2 fun u A3 H3 Δ3 e3 c3 hz3 => ?_
  obtain ⟨ds, rfl, hw, p⟩ := hz3
  have r3 := (r1.ext e2).ext e3
  cases r3 with
  | tup g1 g2 g3 g4 =>
    rename_i a xs
    refine ⟨a, xs, rfl, SqT.of g1, by rw [g4.length]; exact hw, fun q hq => ?_⟩
    have hcut : RepL X.K C S A3 H3 (cutV xs l u) (Z.cutD ds l u) := by
      unfold cutV Z.cutD
      rw [g4.length]
      exact (g4.drop _).take _
    have e4 := Ext.new (A := A3) (o := .tup (cutV xs l u)) hq
    exact k _ _ A3 _ Δ3 (((e1.trans e2).trans e3).trans e4) (c3.new hq) (.tup upd_same (c3.fresh hq) (c3.aside hq) (hcut.ext e4)) p
end
/-! ### a new list that the caller never changes, made while cells were written -/
def blwO (m : Nat) : O → Bool
  | .lst ds => belowL m ds
  | .ins _ fs => belowL m (fs.map (·.2))
  | .dct _ ds => belowL m ds
theorem Cells.freezeM {K : PySem.W.Frag} {C : CI} {S A : List Addr} {H H0 : Hp} {Δ Δ1 : Store} {x : Addr} {es : List D} (c1 : Cells K C S A H0 Δ) (hc : Cells K C S (A ++ [x]) H (Δ1 ++ [.lst es])) (hl : Δ1.length = Δ.length)
    (hw : ∀ (n : Nat) (o : O), Δ1[n]? = some o → Δ[n]? = some o ∨ blwO Δ.length o = true) (hb : belowL A.length es = true) : Cells K C S A H Δ1 ∧ Rep K C S A H (.ref x) (.lst es) := by
  have lenΔ : A.length = Δ1.length := by rw [hl]; exact c1.len
  refine ⟨⟨lenΔ, c1.nd, c1.dj, hc.as, fun n a o h1 h2 => ?_⟩, ?_⟩
  · have hn : n < A.length := (List.getElem?_eq_some_iff.mp h1).1
    have q := hc.at_ n a o (by rw [List.getElem?_append_left hn]; exact h1) (by rw [List.getElem?_append_left (by rw [← lenΔ]; exact hn)]; exact h2)
    have hb2 : blwO A.length o = true := by
      rcases hw n o h2 with h | h
      · have q0 := c1.at_ n a o h1 h
        cases o with
        | lst ds =>
          obtain ⟨_, _, g3⟩ := q0
          exact RepL.blw ds g3
        | ins c fs =>
          obtain ⟨_, _, _, _, g4⟩ := q0
          exact RepL.blw _ g4
        | dct ks ds =>
          obtain ⟨_, _, _, g4⟩ := q0
          exact RepL.blw _ g4
      · rw [c1.len]; exact h
    cases o with
    | lst ds =>
      obtain ⟨xs, g1, g2⟩ := q
      exact ⟨xs, g1, RepL.drop_ ds hb2 g2⟩
    | ins c fs =>
      obtain ⟨dx, xs, g1, g2, g3⟩ := q
      exact ⟨dx, xs, g1, g2, RepL.drop_ _ hb2 g3⟩
    | dct ks ds =>
      obtain ⟨xs, g1, g2, g3⟩ := q
      exact ⟨xs, g1, g2, RepL.drop_ _ hb2 g3⟩
  · have q := hc.at_ A.length x (.lst es) (by rw [List.getElem?_append_right (Nat.le_refl _), Nat.sub_self] <;> rfl) (by rw [lenΔ, List.getElem?_append_right (Nat.le_refl _), Nat.sub_self] <;> rfl)
    obtain ⟨xs, g1, g2⟩ := q
    have hx : x ∉ A := fun h => by
      have := List.nodup_append.mp hc.nd
      exact this.2.2 x h x (by simp) rfl
    exact .lst g1 hx (hc.dj x (by simp)) (RepL.drop_ es hb g2)
def frzM (W : ZRC) : ZRC := fun ds Δ P => W ds Δ fun d Δ' => ∃ es Δ1, d = .cell Δ1.length ∧ Δ' = Δ1 ++ [.lst es] ∧ Δ1.length = Δ.length ∧ (∀ (n : Nat) (o : O), Δ1[n]? = some o → Δ[n]? = some o ∨ blwO Δ.length o = true) ∧ belowL Δ.length es = true ∧ P (.lst es) Δ1
section
variable {P : Program} {w : World} {K : PySem.W.Frag} {mg : Str → Option Value} {base : Heap} {C : CI} {k : Nat} {f : Addr} {fd : FuncData} {ps : List Str} {W : ZRC}
theorem sp_frzM {vs : List V} {H : Hp} {Q : VK} {E : XK} (h : SpZ K C (frzM W) vs H Q E) : SpZ K C W vs H Q E := by
  obtain ⟨S, A, Δ, ds, P, r, hc, hw, kk⟩ := h
  refine ⟨S, A, Δ, ds, _, r, hc, hw, fun v d A' H' Δ' e c r' q => ?_⟩
  obtain ⟨es, Δ1, rfl, rfl, hl, hch, hb, p⟩ := q
  cases r' with
  | cell g =>
    rename_i x
    have hA' : A' = A ++ [x] := by
      obtain ⟨B, hB, _⟩ := e.pre
      have hlen := c.len
      have hl1 : ([O.lst es] : List O).length = 1 := rfl
      rw [hB, List.length_append, List.length_append, hc.len, hl1, hl] at hlen
      have hB1 : B.length = 1 := by omega
      obtain ⟨b, hb1⟩ := List.length_eq_one_iff.mp hB1
      rw [hB, hb1, hl, ← hc.len, List.getElem?_append_right (Nat.le_refl _), Nat.sub_self] at g
      cases g
      rw [hB, hb1]
    subst hA'
    obtain ⟨c5, r5⟩ := hc.freezeM c hl hch (by rw [hc.len]; exact hb)
    exact kk _ _ A H' Δ1 ⟨⟨[], by simp, by simp⟩, fun a o h1 h2 => e.keep a o h1 h2, e.trk⟩ c5 r5 p
theorem fn_frzM (F : FnOk P w K mg base CX0 k f fd ps (SpZ K C W)) : FnOk P w K mg base CX0 k f fd ps (SpZ K C (frzM W)) := F.imp fun _ _ _ _ h => sp_frzM h
end
end Z

/-! Z11: a comprehension with two generators. -/
namespace Z
open PySem PySem.Spec PyProof.Rows L2
/-- the outer items; the inner ones go on with the same new list -/
def comp2Z (zg : ZG) (zt : ZT) (zi1 : ZI) (zg1 : ZG) (zt1 : ZT) (ze : ZE) (vs1 : List Nat) (Γ0 : Env) (P : D → Store → Prop) : List D → List D → Store → Prop
  | [], acc, Δ => P (.lst acc) Δ
  | x :: xs, acc, Δ => zg x Γ0 Δ fun Γ2 Δ2 => zt Γ2 Δ2 fun b Δ3 => (b = true → zi1 Γ2 Δ3 fun items Δ4 => compZ zg1 zt1 ze (wipeZ Γ2 vs1) (fun d Δ' => ∃ acc', d = .lst acc' ∧ comp2Z zg zt zi1 zg1 zt1 ze vs1 Γ0 P xs acc' Δ') items acc Δ4) ∧ (b = false → comp2Z zg zt zi1 zg1 zt1 ze vs1 Γ0 P xs acc Δ3)
def zLc2 (zi : ZI) (zg : ZG) (zt : ZT) (zi1 : ZI) (zg1 : ZG) (zt1 : ZT) (ze : ZE) (vs vs1 : List Nat) : ZE := fun Γ Δ P => zi Γ Δ fun items Δ1 => comp2Z zg zt zi1 zg1 zt1 ze vs1 (wipeZ Γ vs) P items [] Δ1
section
variable {K : PySem.W.Frag} {C : CI} {S : List Addr} {q : Addr}
/-- the new list at q grows -/
theorem grow_mo {A : List Addr} {H : Hp} {l : List V} : Mo (q :: S) A H (q :: S) A (upd H q (.lst l)) := ⟨⟨[], by simp, by simp⟩, fun _ h => .inl h, fun a o _ h2 h3 => by
  rw [upd_ne (fun h => h2 (by rw [h]; exact List.mem_cons_self))]; exact h3⟩
theorem grow_cells {A : List Addr} {H : Hp} {Δ : Store} {l : List V} (c : Cells K C (q :: S) A H Δ) : Cells K C (q :: S) A (upd H q (.lst l)) Δ := by
  have hq : q ∉ A := fun h => c.dj q h List.mem_cons_self
  refine ⟨c.len, c.nd, c.dj, fun a ha h => ?_, fun n a o h1 h2 => (c.at_ n a o h1 h2).mono grow_mo fun u h => ?_⟩
  · by_cases hb : a = q
    · subst hb; rw [upd_same] at h; cases h
    · rw [upd_ne hb] at h; exact c.as a ha h
  · rw [upd_ne (fun hb => hq (by rw [← hb]; exact List.mem_of_getElem? h1))]; exact h
/-- what the new list at q is, all along -/
structure At (K : PySem.W.Frag) (C : CI) (S : List Addr) (q : Addr) (A0 : List Addr) (H0 : Hp) (A : List Addr) (H : Hp) (Δ : Store) (acc : List D) : Prop where
  mo : Mo (q :: S) A0 H0 (q :: S) A H
  trk : ∀ a, H a = none → H0 a = none
  kp : ∀ a o, a ∉ A0 → a ≠ q → H0 a = some o → H a = some o
  cells : Cells K C (q :: S) A H Δ
  lst : ∃ accV, H q = some (.lst accV) ∧ RepL K C (q :: S) A H accV acc
theorem At.ext {A0 A A' : List Addr} {H0 H H' : Hp} {Δ Δ' : Store} {acc : List D} (h : At K C S q A0 H0 A H Δ acc) (e : Ext A H A' H') (c : Cells K C (q :: S) A' H' Δ') : At K C S q A0 H0 A' H' Δ' acc := by
  obtain ⟨accV, h1, h2⟩ := h.lst
  have hq : q ∉ A := fun z => h.cells.dj q z List.mem_cons_self
  obtain ⟨B, hB, nB⟩ := h.mo.pre
  obtain ⟨B', hB', nB'⟩ := e.pre
  have hin : ∀ a o, a ∈ A → H0 a = some o → a ∈ A0 := fun a o ha ho => by
    rw [hB] at ha
    rcases List.mem_append.mp ha with ha | ha
    · exact ha
    · rw [nB a ha] at ho; cases ho
  refine ⟨⟨⟨B ++ B', by rw [hB', hB, List.append_assoc], fun b hb => ?_⟩, fun _ z => .inl z, fun a o g1 g2 g3 => ?_⟩, fun a z => h.trk a (e.trk a z), fun a o g1 g2 g3 => ?_, c, accV, e.keep q _ hq h1, h2.ext e⟩
  · rcases List.mem_append.mp hb with hb | hb
    · exact nB b hb
    · exact h.trk b (nB' b hb)
  · exact e.keep a o (fun z => g1 (hin a o z g3)) (h.mo.keep a o g1 g2 g3)
  · exact e.keep a o (fun z => g1 (hin a o z g3)) (h.kp a o g1 g2 g3)
theorem At.grow {A0 A : List Addr} {H0 H : Hp} {Δ : Store} {acc : List D} {accV : List V} {y : V} {d : D} (h : At K C S q A0 H0 A H Δ acc) (h1 : H q = some (.lst accV)) (h2 : RepL K C (q :: S) A H accV acc) (r : Rep K C (q :: S) A H y d) : At K C S q A0 H0 A (upd H q (.lst (accV ++ [y]))) Δ (acc ++ [d]) := by
  refine ⟨⟨h.mo.pre, fun _ z => .inl z, fun a o g1 g2 g3 => ?_⟩, fun a z => ?_, fun a o g1 g2 g3 => ?_, grow_cells h.cells, _, upd_same, (RepL.append h2 (.cons r .nil)).mono grow_mo _⟩
  · rw [upd_ne (fun z => g2 (by rw [z]; exact List.mem_cons_self))]; exact h.mo.keep a o g1 g2 g3
  · by_cases hb : a = q
    · subst hb; rw [upd_same] at z; cases z
    · rw [upd_ne hb] at z; exact h.trk a z
  · rw [upd_ne g2]; exact h.kp a o g1 g2 g3
theorem At.here {A : List Addr} {H : Hp} {Δ : Store} {acc : List D} (c : Cells K C (q :: S) A H Δ) (l : ∃ accV, H q = some (.lst accV) ∧ RepL K C (q :: S) A H accV acc) : At K C S q A H A H Δ acc :=
  ⟨⟨⟨[], by simp, by simp⟩, fun _ z => .inl z, fun _ _ _ _ h => h⟩, fun _ h => h, fun _ _ _ _ h => h, c, l⟩
theorem drop_cons {α : Type} {l : List α} {i : Nat} {d : α} (h : l[i]? = some d) : l.drop i = d :: l.drop (i + 1) := by
  obtain ⟨hl, q⟩ := List.getElem?_eq_some_iff.mp h
  rw [← q]
  exact List.drop_eq_getElem_cons hl
theorem lc_in {wi1 : TI} {g1 : TG} {tt1 : TT} {te : TE} {zi1 : ZI} {zg1 : ZG} {zt1 : ZT} {ze : ZE} {vs1 : List Nat} (hi : RefI K C wi1 zi1) (hg : RefG K C g1 zg1) (ho : Own g1 vs1) (ht : RefT K C tt1 zt1) (he : RefE K C te ze)
    {A0 A : List Addr} {H0 H : Hp} {σ : L2.St} {Γ : Env} {Δ : Store} {acc : List D} (hs : Slots K C (q :: S) A H σ Γ) (h : At K C S q A0 H0 A H Δ acc) {R : D → Store → Prop} (p : zi1 Γ Δ fun items Δ' => compZ zg1 zt1 ze (wipeZ Γ vs1) R items acc Δ') {Nx : Hp → Prop}
    (hd : ∀ A' H' Δ' acc', At K C S q A0 H0 A' H' Δ' acc' → R (.lst acc') Δ' → Nx H') :
    wi1 σ H fun J1 H4 => ∃ W1 : Nat → Nat → Hp → Prop, (∃ m, W1 0 m H4) ∧ ∀ j k H, W1 j k H → (J1.stop j H ∧ Nx H) ∨ (J1.go j H ∧ ∃ Nx1 : Hp → Prop, (∀ H', Nx1 H' → ∃ k', k' < k ∧ W1 (j + 1) k' H') ∧ ∀ x H', J1.yld j H x H' → g1 x (wipe σ vs1) H' fun σ3 H5 => wipe σ3 vs1 = wipe σ vs1 ∧ tt1 σ3 H5 fun b H6 =>
      if b = true then te σ3 H6 fun y H7 => ∃ acc, H7 q = some (.lst acc) ∧ acc.length < sizeLine ∧ Nx1 (upd H7 q (.lst (acc ++ [y]))) else Nx1 H6) := by
  refine hi (q :: S) A σ H Γ Δ _ _ hs h.cells p fun J n G Y items A1 H1 Δ1 e1 c1 p1 hn w hG hY => ?_
  have h1 := h.ext e1 c1
  have s1 := hs.ext e1
  refine ⟨fun j k H2 => k = n - j ∧ j ≤ n ∧ ∃ A2 Δ2 acc2, At K C S q A0 H0 A2 H2 Δ2 acc2 ∧ At K C S q A1 H1 A2 H2 Δ2 acc2 ∧ compZ zg1 zt1 ze (wipeZ Γ vs1) R (items.drop j) acc2 Δ2, ⟨n, by simp, Nat.zero_le _, A1, Δ1, acc, h1, .here c1 h1.lst, p1⟩, ?_⟩
  rintro j k H2 ⟨rfl, hj, A2, Δ2, acc2, a0, a1, p2⟩
  have gg := hG (q :: S) A2 H2 a1.mo
  by_cases hlt : j < n
  · refine .inr ⟨w.goes j H2 hlt gg, fun H' => ∃ A2 Δ2 acc2, At K C S q A0 H0 A2 H' Δ2 acc2 ∧ At K C S q A1 H1 A2 H' Δ2 acc2 ∧ compZ zg1 zt1 ze (wipeZ Γ vs1) R (items.drop (j + 1)) acc2 Δ2, fun H' p' => ⟨n - (j + 1), by omega, rfl, hlt, p'⟩, fun x H3 y => ?_⟩
    obtain ⟨d, q1, q2, q3⟩ := hY (q :: S) A2 H2 Δ2 j x H3 hlt a1.mo a0.cells (w.yields j H2 x H3 hlt gg y)
    rw [drop_cons q1] at p2
    have e3 : Ext A2 H2 A2 H3 := Ext.kept q2
    have c3 := a0.cells.kept q2
    have s3 : Slots K C (q :: S) A2 H3 (wipe σ vs1) (wipeZ Γ vs1) := ((s1.mono a1.mo).ext e3).wipe vs1
    have fin : g1 x (wipe σ vs1) H3 fun σ2 H4 => wipe σ2 vs1 = wipe (wipe σ vs1) vs1 ∧ tt1 σ2 H4 fun b H5 =>
        if b = true then te σ2 H5 fun y H6 => ∃ acc, H6 q = some (.lst acc) ∧ acc.length < sizeLine ∧ ∃ A2 Δ2 acc2, At K C S q A0 H0 A2 (upd H6 q (.lst (acc ++ [y]))) Δ2 acc2 ∧ At K C S q A1 H1 A2 (upd H6 q (.lst (acc ++ [y]))) Δ2 acc2 ∧ compZ zg1 zt1 ze (wipeZ Γ vs1) R (items.drop (j + 1)) acc2 Δ2
        else ∃ A2 Δ2 acc2, At K C S q A0 H0 A2 H5 Δ2 acc2 ∧ At K C S q A1 H1 A2 H5 Δ2 acc2 ∧ compZ zg1 zt1 ze (wipeZ Γ vs1) R (items.drop (j + 1)) acc2 Δ2 := by
      refine ho _ _ _ _ (hg (q :: S) A2 (wipe σ vs1) H3 (wipeZ Γ vs1) Δ2 x d _ _ s3 c3 q3 p2 fun σ4 A4 H4 Γ4 Δ4 e4 s4 c4 p4 => ?_)
      refine ht (q :: S) A4 σ4 H4 Γ4 Δ4 _ _ s4 c4 p4 fun b A5 H5 Δ5 e5 c5 p5 => ?_
      have b0 := ((a0.ext e3 c3).ext e4 c4).ext e5 c5
      have b1 := ((a1.ext e3 c3).ext e4 c4).ext e5 c5
      cases b with
      | false => exact iteF ⟨A5, Δ5, acc2, b0, b1, p5.2 rfl⟩
      | true =>
        refine iteT (he (q :: S) A5 σ4 H5 Γ4 Δ5 _ _ (s4.ext e5) c5 (p5.1 rfl) fun y dy A6 H6 Δ6 e6 c6 r6 p6 => ?_)
        have d0 := b0.ext e6 c6
        have d1 := b1.ext e6 c6
        obtain ⟨accV, l1, l2⟩ := d0.lst
        exact ⟨accV, l1, lt_line (by rw [l2.length]; exact p6.1), A6, Δ6, acc2 ++ [dy], d0.grow l1 l2 r6, d1.grow l1 l2 r6, p6.2⟩
    rw [wipe_wipe] at fin
    exact fin
  · have e : j = n := by omega
    subst e
    rw [hn, List.drop_length] at p2
    exact .inl ⟨w.stops H2 gg, hd A2 H2 Δ2 acc2 a0 p2⟩
theorem ref_lc2 {wi wi1 : TI} {g g1 : TG} {tt tt1 : TT} {te : TE} {vs vs1 : List Nat} {zi zi1 : ZI} {zg zg1 : ZG} {zt zt1 : ZT} {ze : ZE} (hi : RefI K C wi zi) (hg : RefG K C g zg) (ho : Own g vs) (ht : RefT K C tt zt) (hi1 : RefI K C wi1 zi1) (hg1 : RefG K C g1 zg1) (ho1 : Own g1 vs1) (ht1 : RefT K C tt1 zt1) (he : RefE K C te ze) :
    RefE K C (tLc2 wi g tt wi1 g1 tt1 te vs vs1) (zLc2 zi zg zt zi1 zg1 zt1 ze vs vs1) := fun S A σ H Γ Δ P Q hs hc hz k => hi S A σ H Γ Δ _ _ hs hc hz fun J n G Y items A1 H1 Δ1 e1 c1 p hn w hG hY q hq => by
  have s1 := hs.ext e1
  have mo0 : Mo S A1 H1 (q :: S) A1 (upd H1 q (.lst [])) := ⟨⟨[], by simp, by simp⟩, fun b hb => by
    rcases List.mem_cons.mp hb with rfl | hb
    · exact .inr hq
    · exact .inl hb, fun a o _ _ h => by rw [upd_ne (ne_of_none h hq)]; exact h⟩
  have cells0 : Cells K C (q :: S) A1 (upd H1 q (.lst [])) Δ1 := by
    refine ⟨c1.len, c1.nd, fun a ha hb => ?_, fun a ha h => ?_, fun n a o h1 h2 => (c1.at_ n a o h1 h2).mono mo0 fun u h => by rw [upd_ne (ne_of_none h hq)]; exact h⟩
    · rcases List.mem_cons.mp hb with rfl | hb
      · exact c1.fresh hq ha
      · exact c1.dj a ha hb
    · rcases List.mem_cons.mp ha with rfl | ha
      · rw [upd_same] at h; cases h
      · exact c1.as a ha ((Ext.new (A := A1) hq).trk a h)
  have mo2 : ∀ {A2 : List Addr} {H2 : Hp} {Δ2 : Store} {acc : List D}, At K C S q A1 (upd H1 q (.lst [])) A2 H2 Δ2 acc → Mo S A1 H1 (q :: S) A2 H2 := fun {A2 H2 Δ2 acc} a => by
    obtain ⟨B, hB, nB⟩ := a.mo.pre
    refine ⟨⟨B, hB, fun b hb => (Ext.new (A := A1) hq).trk b (nB b hb)⟩, mo0.sub, fun x o h1 h2 h3 => ?_⟩
    have hx := ne_of_none h3 hq
    exact a.kp x o h1 hx (by rw [upd_ne hx]; exact h3)
  have ext2 : ∀ {A2 : List Addr} {H2 : Hp} {Δ2 : Store} {acc : List D}, At K C S q A1 (upd H1 q (.lst [])) A2 H2 Δ2 acc → Ext A1 H1 A2 H2 := fun {A2 H2 Δ2 acc} a => by
    obtain ⟨B, hB, nB⟩ := a.mo.pre
    refine ⟨⟨B, hB, fun b hb => (Ext.new (A := A1) hq).trk b (nB b hb)⟩, fun x o h1 h3 => ?_, fun x h => (Ext.new (A := A1) hq).trk x (a.trk x h)⟩
    have hx := ne_of_none h3 hq
    exact a.kp x o h1 hx (by rw [upd_ne hx]; exact h3)
  refine ⟨fun i m H2 => m = n - i ∧ i ≤ n ∧ ∃ A2 Δ2 acc, At K C S q A1 (upd H1 q (.lst [])) A2 H2 Δ2 acc ∧ comp2Z zg zt zi1 zg1 zt1 ze vs1 (wipeZ Γ vs) P (items.drop i) acc Δ2, ⟨n, by simp, Nat.zero_le _, A1, Δ1, [], .here cells0 ⟨[], upd_same, .nil⟩, p⟩, ?_⟩
  rintro i m H2 ⟨rfl, hin, A2, Δ2, acc, a0, p2⟩
  have gg := hG (q :: S) A2 H2 (mo2 a0)
  by_cases hlt : i < n
  · refine .inr ⟨w.goes i H2 hlt gg, fun H' => ∃ A2 Δ2 acc, At K C S q A1 (upd H1 q (.lst [])) A2 H' Δ2 acc ∧ comp2Z zg zt zi1 zg1 zt1 ze vs1 (wipeZ Γ vs) P (items.drop (i + 1)) acc Δ2, fun H' p' => ⟨n - (i + 1), by omega, rfl, hlt, p'⟩, fun x H3 y => ?_⟩
    obtain ⟨d, q1, q2, q3⟩ := hY (q :: S) A2 H2 Δ2 i x H3 hlt (mo2 a0) a0.cells (w.yields i H2 x H3 hlt gg y)
    rw [drop_cons q1] at p2
    have e3 : Ext A2 H2 A2 H3 := Ext.kept q2
    have c3 := a0.cells.kept q2
    have s3 : Slots K C (q :: S) A2 H3 (wipe σ vs) (wipeZ Γ vs) := ((s1.mono (mo2 a0)).ext e3).wipe vs
    have h5 := hg (q :: S) A2 (wipe σ vs) H3 (wipeZ Γ vs) Δ2 x d _ (fun σ4 H4 => tt σ4 H4 fun b H5 => if b = true then wi1 σ4 H5 fun J1 H4 => ∃ W1 : Nat → Nat → Hp → Prop, (∃ m, W1 0 m H4) ∧ ∀ j k H, W1 j k H → (J1.stop j H ∧ ∃ A2 Δ2 acc, At K C S q A1 (upd H1 q (.lst [])) A2 H Δ2 acc ∧ comp2Z zg zt zi1 zg1 zt1 ze vs1 (wipeZ Γ vs) P (items.drop (i + 1)) acc Δ2) ∨ (J1.go j H ∧ ∃ Nx1 : Hp → Prop, (∀ H', Nx1 H' → ∃ k', k' < k ∧ W1 (j + 1) k' H') ∧ ∀ x H', J1.yld j H x H' → g1 x (wipe σ4 vs1) H' fun σ3 H5 => wipe σ3 vs1 = wipe σ4 vs1 ∧ tt1 σ3 H5 fun b H6 =>
      if b = true then te σ3 H6 fun y H7 => ∃ acc, H7 q = some (.lst acc) ∧ acc.length < sizeLine ∧ Nx1 (upd H7 q (.lst (acc ++ [y]))) else Nx1 H6) else ∃ A2 Δ2 acc, At K C S q A1 (upd H1 q (.lst [])) A2 H5 Δ2 acc ∧ comp2Z zg zt zi1 zg1 zt1 ze vs1 (wipeZ Γ vs) P (items.drop (i + 1)) acc Δ2) s3 c3 q3 p2 fun σ4 A4 H4 Γ4 Δ4 e4 s4 c4 p4 => by
      refine ht (q :: S) A4 σ4 H4 Γ4 Δ4 _ _ s4 c4 p4 fun b A5 H5 Δ5 e5 c5 p5 => ?_
      have b0 := ((a0.ext e3 c3).ext e4 c4).ext e5 c5
      cases b with
      | false => exact iteF ⟨A5, Δ5, acc, b0, p5.2 rfl⟩
      | true => exact iteT (lc_in hi1 hg1 ho1 ht1 he (s4.ext e5) b0 (p5.1 rfl) fun A' H' Δ' acc' a' r' => by
          obtain ⟨acc2, e, r'⟩ := r'
          cases e
          exact ⟨A', Δ', acc', a', r'⟩)
    have fin := ho _ _ _ _ h5
    rw [wipe_wipe] at fin
    exact fin
  · have e : i = n := by omega
    subst e
    rw [hn, List.drop_length] at p2
    refine .inl ⟨w.stops H2 gg, ?_⟩
    obtain ⟨accV, l1, l2⟩ := a0.lst
    have c2 := a0.cells
    have hq2 : q ∉ A2 := fun h => c2.dj q h List.mem_cons_self
    have mo8 : Mo (q :: S) A2 H2 S A2 H2 := ⟨⟨[], by simp, by simp⟩, fun b hb => .inl (List.mem_cons_of_mem _ hb), fun _ _ _ _ h => h⟩
    exact k _ _ A2 H2 Δ2 (e1.trans (ext2 a0)) ⟨c2.len, c2.nd, fun a ha hb => c2.dj a ha (List.mem_cons_of_mem _ hb), fun a ha => c2.as a (List.mem_cons_of_mem _ ha), fun n a o h1 h2 => (c2.at_ n a o h1 h2).mono mo8 fun _ h => h⟩
      (.lst l1 hq2 (c1.aside hq) (RepL.mono mo8 _ l2)) p2
end
def upI (K : PySem.W.Frag) (C : CI) (zi : ZI) : TI := fun σ H R => ∃ S A Γ Δ P, Slots K C S A H σ Γ ∧ Cells K C S A H Δ ∧ zi Γ Δ P ∧
  (∀ (J : It) (n : Nat) (G : Hp → Prop) (Y : Nat → Hp → V → Hp → Prop) (items : List D) (A' : List Addr) (H' : Hp) (Δ' : Store), Ext A H A' H' → Cells K C S A' H' Δ' → P items Δ' → n = items.length → Walk J n G Y →
    (∀ S2 A2 H2, Mo S A' H' S2 A2 H2 → G H2) →
    (∀ S2 A2 H2 Δ2 i x H3, i < n → Mo S A' H' S2 A2 H2 → Cells K C S2 A2 H2 Δ2 → Y i H2 x H3 → ∃ d, items[i]? = some d ∧ (∀ a o, H2 a = some o → H3 a = some o) ∧ Rep K C S2 A2 H3 x d) → R J H')
theorem ref_upI {K : PySem.W.Frag} {C : CI} {zi : ZI} : RefI K C (upI K C zi) zi := fun S A σ H Γ Δ P R hs hc hz k => ⟨S, A, Γ, Δ, P, hs, hc, hz, k⟩
theorem IZ.up {C : CI} {X : Cx} {tg iter : Expr} {zi : ZI} (h : IZ C X tg iter zi) : PI X tg iter (upI X.K C zi) := by
  obtain ⟨t, h1, h2⟩ := h.ex
  refine ⟨fun pins s σ H R I q => h1.run pins s σ H R I ?_⟩
  obtain ⟨S, A, Γ, Δ, P, hs, hc, hz, k⟩ := q
  exact h2 S A σ H Γ Δ P R hs hc hz k
section
variable {C : CI} {X : Cx}
/-- [elt for tg in iter if .. for tg1 in iter1 if ..] -/
theorem ez_lc2 {elt tg iter tg1 iter1 : Expr} {ifs ifs1 : List Expr} {scope : Scope} {own : List (Str × Nat)} {vs1 : List Nat} {pos : Pos} {zi zi1 : ZI} {g g1 : TG} {zg zg1 : ZG} {zt zt1 : ZT} {ze : ZE} (hN : X.N.Nodup) (hi : IZ C X tg iter zi) (ok : BlkOk X.N X.env.scope scope own) (ho : Own g (own.map (·.2))) (ho1 : Own g1 vs1) (hv : ∀ i ∈ vs1, i ∈ own.map (·.2))
    (hr : RefG X.K C g zg) (hr1 : RefG X.K C g1 zg1)
    (hg : ∀ (s : Shared) (H : Hp) (Ca : Addr) (cl : List (Str × Addr)) (fp : List Addr), PG (X.blk s H scope (compEnvC scope cl Ca X.env) fp) tg g)
    (ht : ∀ (s : Shared) (H : Hp) (Ca : Addr) (cl : List (Str × Addr)) (fp : List Addr), TsZ C (X.blk s H scope (compEnvC scope cl Ca X.env) fp) ifs zt)
    (hi1 : ∀ (s : Shared) (H : Hp) (Ca : Addr) (cl : List (Str × Addr)) (fp : List Addr), IZ C (X.blk s H scope (compEnvC scope cl Ca X.env) fp) tg1 iter1 zi1)
    (hg1 : ∀ (s : Shared) (H : Hp) (Ca : Addr) (cl : List (Str × Addr)) (fp : List Addr), PG (X.blk s H scope (compEnvC scope cl Ca X.env) fp) tg1 g1)
    (ht1 : ∀ (s : Shared) (H : Hp) (Ca : Addr) (cl : List (Str × Addr)) (fp : List Addr), TsZ C (X.blk s H scope (compEnvC scope cl Ca X.env) fp) ifs1 zt1)
    (he : ∀ (s : Shared) (H : Hp) (Ca : Addr) (cl : List (Str × Addr)) (fp : List Addr), EZ C (X.blk s H scope (compEnvC scope cl Ca X.env) fp) elt ze)
    (hc : X.calm = true := by rfl) (hs : ∀ x, foldedSetIterable iter X.env x = pure x := by intro _; rfl) (hs1 : ∀ env x, foldedSetIterable iter1 env x = pure x := by intro _ _; rfl) :
    EZ C X (.ListComp elt [⟨tg, iter, ifs, 0⟩, ⟨tg1, iter1, ifs1, 0⟩] scope pos) (zLc2 zi zg zt zi1 zg1 zt1 ze (own.map (·.2)) vs1) := by
  obtain ⟨wi, i1, i2⟩ := hi.ex
  exact ⟨_, pe_lc2 hc hN i1 ok hv hg (fun s H Ca cl fp => (ht s H Ca cl fp).up) (fun s H Ca cl fp => (hi1 s H Ca cl fp).up) hg1 (fun s H Ca cl fp => (ht1 s H Ca cl fp).up) (fun s H Ca cl fp => (he s H Ca cl fp).up) hs hs1, ref_lc2 i2 hr ho ref_upT ref_upI hr1 ho1 ref_upT ref_up⟩
end
/-! ### math.lcm of great numbers -/
theorem lcm_lt {x y : Nat} (hx : x < 2 ^ 9000) (hy : y < 2 ^ 9000) : x.lcm y < 2 ^ 18000 := by
  have h : x.lcm y ≤ x * y := by
    unfold Nat.lcm
    exact Nat.div_le_self _ _
  refine Nat.lt_of_le_of_lt h ?_
  have e : 2 ^ 18000 = 2 ^ 9000 * 2 ^ 9000 := by rw [← Nat.pow_add]
  rw [e]
  exact Nat.mul_lt_mul'' hx hy
def rLcm : List V → Hp → VK → Prop := fun vs H Q => ∃ a b : Int, vs = [.int a, .int b] ∧ a.natAbs < 2 ^ 9000 ∧ b.natAbs < 2 ^ 9000 ∧ Q (.int ((Nat.lcm a.natAbs b.natAbs : Nat) : Int)) H
theorem cr_lcm {X : Cx} : CallR X (.builtin "math.lcm") rLcm := by
  intro pins s σ H vs us Q I r h
  obtain ⟨a, b, rfl, ha, hb, q⟩ := h
  obtain ⟨t, u, rfl⟩ := Vals.int2 r
  have p0 : 1 < 2 ^ 9000 := Nat.one_lt_two_pow (by decide)
  have lg : ∀ {n : Nat}, n < 2 ^ 9000 → ¬ n.log2 / 30 + 1 > 450 := fun {n} h => by
    have : n.log2 ≤ 8999 := PySem.W.mg_log (k := 8999) h
    omega
  have m1 : max 1 a.natAbs < 2 ^ 9000 := Nat.max_lt.mpr ⟨p0, ha⟩
  have m2 : max a.natAbs b.natAbs < 2 ^ 9000 := Nat.max_lt.mpr ⟨ha, hb⟩
  have e1 : Nat.lcm 1 a.natAbs = a.natAbs := Nat.lcm_one_left _
  have hsz : ((((Nat.lcm 1 a.natAbs).lcm b.natAbs : Nat) : Int)).natAbs.log2 < bitsLine := by
    rw [e1]
    have : (a.natAbs.lcm b.natAbs).log2 ≤ 17999 := PySem.W.mg_log (k := 17999) (lcm_lt ha hb)
    have e2 : ((a.natAbs.lcm b.natAbs : Nat) : Int).natAbs = a.natAbs.lcm b.natAbs := by omega
    rw [e2, bitsLine_eq]
    omega
  refine call_function_meets PySem.W.MGF.kind_lcm PySem.W.MGF.plain_lcm PySem.W.MGF.entry_lcm (PySem.W.MGF.args_lcm _ _) (PySem.W.mg_run_lcm a t b u (lg m1) (lg m2) hsz).meets ?_
  rw [e1]
  exact ⟨.int _, H, I.tok _, ⟨_, rfl⟩, q⟩
def zLcm : ZRC := fun ds Δ P => ∃ i j : Int, ds = [.int i, .int j] ∧ i.natAbs < 2 ^ 9000 ∧ j.natAbs < 2 ^ 9000 ∧ P (.int (Nat.lcm i.natAbs j.natAbs : Nat)) Δ
theorem cz_lcm {C : CI} {X : Cx} : CallZ C X (.builtin "math.lcm") zLcm := ⟨_, cr_lcm, fun S A H Δ xs ds P Q hc r hz k => by
  obtain ⟨i, j, rfl, hi, hj, q⟩ := hz
  obtain ⟨v, v', rfl, rv, rv'⟩ := two_rep r
  cases rv
  cases rv'
  exact ⟨i, j, rfl, hi, hj, k _ _ A H Δ (Ext.refl _ _) hc (.int _) q⟩⟩
/-! ### sorted({elt for tg in iter if ..}), elt an int: the reading (its rule over the heap is still to be written) -/
def zSrtS (zi : ZI) (zg : ZG) (zt : ZT) (ze : ZE) (vs : List Nat) : ZE := fun Γ Δ P => zLc zi zg zt ze vs Γ Δ fun d Δ1 => ∃ ns : List Int, d = .lst (ns.map D.int) ∧ ∀ ms : List Int, ms.Pairwise (· < ·) → (∀ k, k ∈ ms ↔ k ∈ ns) → P (.lst (ms.map D.int)) Δ1
end Z

/-! Z12: dicts whose keys are ints; sorted of such a dict, of any size; max with a default. -/
namespace Z
open PySem PySem.Spec PyProof.Rows L2
/-! ### max(xs, default=d) of a list that is not empty -/
section
variable {prog : Program} {w : World} {A : Around} {I : Addr} {fp wr : List Addr} {n : Nat} {Pv : Nat → Value → Prop} {St : Nat → Heap → Prop}
abbrev dfl (d : Value) : List (Str × Value) := [(Str.ofString "default", d)]
abbrev best (S : Addr) (vs : Array Value) (c : Nat) : Obj := { cls := .type "list", dict := none, data := .seq vs c, slots := #[] }
theorem mx_turn {R : Result → Shared → Prop} {d : Value} (W : Walks prog w A.in1 I fp wr n Pv St) (bt : Nat → Nat → Bool) (hcmp : CmpOf prog w A.in1 .Gt Pv bt) (B : Addr) (hB : B ∉ fp) :
    ∀ (k j : Nat) (s : Shared) (u : Value) (c : Nat), n = j + 1 + k → St (j + 1) s.heap → Pv (argBest bt j) u → s.heap.get? B = some (best B #[u, u] c) →
    (∀ v h' tk, Pv (argBest bt (n - 1)) v → (∀ b o, b ∉ wr → b ≠ B → s.heap.get? b = some o → h'.get? b = some o) → R (.ok (.ret v)) { s with heap := h', toks := tk }) →
    codeAny (model prog w) A (.builtin "max.loop" ⟨[.ref I, .none, .ref B], dfl d⟩) R s := by
  have hBw : B ∉ wr := fun h => hB (W.sub _ h)
  have nm : (toString "max" ++ toString ".loop" : String) = "max.loop" := by decide
  intro k
  induction k with
  | zero =>
    intro j s u c hk hst hu hS hR; have hin : j + 1 = n := by omega
    refine codeAny_builtin F.entry_max_loop ?_; rw [Around.under_plainId F.plain_max_loop _]
    show wpAny _ A.in1 (seqItems? (.ref B) >>= _) _ _ s; refine wpAny_bind (wpAny_seqItems hS rfl ?_)
    show wpAny _ A.in1 (tryCatch (pyNext (.ref I)) _ >>= _) _ _ s; refine wpAny_bind (wpAny_tryCatch (W.done s _ _ (hin ▸ hst) fun h' tk hk' => ?_))
    have hS' := hk' B _ hBw hS; show wpAny _ A.in1 (updateSeq B (fun _ => #[]) >>= _) _ _ _
    refine wpAny_bind (wpAny_updateSeq hS' rfl (wpAny_bind (wpAny_letGo (wpAny_pure ?_))))
    exact hR u _ tk (by rw [← hin]; exact hu) fun b o hbw hbB e => (Heap.get?_update_other _ _ (Ne.symm hbB)).trans (hk' b o hbw e)
  | succ k ih =>
    intro j s u c hk hst hu hS hR; have hlt : j + 1 < n := by omega
    refine codeAny_builtin F.entry_max_loop ?_; rw [Around.under_plainId F.plain_max_loop _]
    show wpAny _ A.in1 (seqItems? (.ref B) >>= _) _ _ s; refine wpAny_bind (wpAny_seqItems hS rfl ?_)
    show wpAny _ A.in1 (tryCatch (pyNext (.ref I)) _ >>= _) _ _ s; refine wpAny_bind (wpAny_tryCatch (W.item (j + 1) s _ _ hlt hst fun v h' tk hv hst' hk' => ?_))
    have hS' := hk' B _ hBw hS; show wpAny _ A.in1 (tryCatch (holding [v, v] (richCompare .Gt v u >>= _)) _ >>= _) _ _ _
    refine wpAny_bind (wpAny_tryCatch (wpAny_holding (wpAny_bind (hcmp (j + 1) (argBest bt j) v u _ _ _ hv hu ?_)))); refine wpAny_bind (wpAny_holding (wpAny_truthy_bool ?_)); refine wpAny_bind (wpAny_letGo (wpAny_pure ?_))
    cases hb : bt (j + 1) (argBest bt j) with
    | true =>
      simp only [if_true]
      refine wpAny_bind (wpAny_updateSeq hS' rfl (wpAny_bind (wpAny_letGo ?_)))
      rw [nm]
      refine wpAny_pure ⟨plainId_quiet F.plain_max_loop _, ih (j + 1) _ v _ (by omega) (W.frame _ _ _ hst' fun b hbf o e => (Heap.get?_update_other _ _ (fun h : B = b => hB (by rw [h]; exact hbf))).trans e) (by simp only [argBest, hb, if_true]; exact hv) (Heap.get?_update_self _ hS' rfl)
        fun v' h2 tk2 hv' hk2 => hR v' h2 tk2 hv' fun b o hbw hbB e => hk2 b o hbw hbB ((Heap.get?_update_other _ _ (Ne.symm hbB)).trans (hk' b o hbw e))⟩
    | false =>
      simp only [Bool.false_eq_true, if_false]
      refine wpAny_bind (wpAny_letGo ?_)
      rw [nm]
      exact wpAny_pure ⟨plainId_quiet F.plain_max_loop _, ih (j + 1) _ u c (by omega) hst' (by simp only [argBest, hb, Bool.false_eq_true, if_false]; exact hu) hS' fun v' h2 tk2 hv' hk2 =>
        hR v' h2 tk2 hv' fun b o hbw hbB e => hk2 b o hbw hbB (hk' b o hbw e)⟩
theorem mx_first {R : Result → Shared → Prop} {d : Value} (W : Walks prog w A.in1 I fp wr n Pv St) (bt : Nat → Nat → Bool) (hcmp : CmpOf prog w A.in1 .Gt Pv bt) (B : Addr) (hB : B ∉ fp) (hn : 0 < n) {s : Shared} {c : Nat} (hst : St 0 s.heap) (hS : s.heap.get? B = some (best B #[] c))
    (hR : ∀ v h' tk, Pv (argBest bt (n - 1)) v → (∀ b o, b ∉ wr → b ≠ B → s.heap.get? b = some o → h'.get? b = some o) → R (.ok (.ret v)) { s with heap := h', toks := tk }) :
    codeAny (model prog w) A (.builtin "max.loop" ⟨[.ref I, .none, .ref B], dfl d⟩) R s := by
  have hBw : B ∉ wr := fun h => hB (W.sub _ h)
  have nm : (toString "max" ++ toString ".loop" : String) = "max.loop" := by decide
  refine codeAny_builtin F.entry_max_loop ?_; rw [Around.under_plainId F.plain_max_loop _]
  show wpAny _ A.in1 (seqItems? (.ref B) >>= _) _ _ s; refine wpAny_bind (wpAny_seqItems hS rfl ?_)
  show wpAny _ A.in1 (tryCatch (pyNext (.ref I)) _ >>= _) _ _ s; refine wpAny_bind (wpAny_tryCatch (W.item 0 s _ _ hn hst fun v h' tk hv hst' hk' => ?_))
  have hS' := hk' B _ hBw hS; show wpAny _ A.in1 (updateSeq B (fun _ => #[v, v]) >>= _) _ _ _
  refine wpAny_bind (wpAny_updateSeq hS' rfl ?_)
  rw [nm]
  exact wpAny_pure ⟨plainId_quiet F.plain_max_loop _, mx_turn W bt hcmp B hB (n - 1) 0 _ v _ (by omega) (W.frame _ _ _ hst' fun b hbf o e => (Heap.get?_update_other _ _ (fun h : B = b => hB (by rw [h]; exact hbf))).trans e) hv (Heap.get?_update_self _ hS' rfl) fun v' h2 tk2 hv' hk2 =>
    hR v' h2 tk2 hv' fun b o hbw hbB e => hk2 b o hbw hbB ((Heap.get?_update_other _ _ (Ne.symm hbB)).trans (hk' b o hbw e))⟩
end
theorem args_maxD (a d : Value) : argsOk "max" ⟨[a], dfl d⟩ := by unfold argsOk; kernel_rfl
section
variable {prog : Program} {w : World} {A : Around} {E : Value → Shared → Prop} {s : Shared}
/-- what the walk of max's argument has to give -/
def MxIt (prog : Program) (w : World) (A : Around) (Q : Value → Shared → Prop) : Value → Shared → Prop := fun it s2 =>
  ∃ (I : Addr) (fp wr : List Addr) (n : Nat) (Pv : Nat → Value → Prop) (St : Nat → Heap → Prop) (bt : Nat → Nat → Bool), it = .ref I ∧ Walks prog w A.in1 I fp wr n Pv St ∧ St 0 s2.heap ∧ (∀ b ∈ fp, b < s2.heap.objs.size) ∧ 0 < n ∧
    CmpOf prog w A.in1 .Gt Pv bt ∧ ∀ v h' tk, Pv (argBest bt (n - 1)) v → (∀ b o, b ∉ wr → s2.heap.get? b = some o → h'.get? b = some o) → Q v { s2 with heap := h', toks := tk }
theorem call_treeK {id : String} {b : Builtin} {args : List Value} {kw : List (Str × Value)} {Q : Value → Shared → Prop} (hk : builtinKind id = none) (hp : plainId id = true) (hb : entryFor table id = some b) (ha : argsOk id ⟨args, kw⟩)
    (hc : wpAny (model prog w) A.in1 (b ⟨args, kw⟩) (fun fin s' => match fin with | .done f => (match (Except.ok f : Result) with | .ok (.ret v) => Q v s' | .ok _ => False | .error e => E e s') | .again c' => c'.quiet = true ∧ codeAny (model prog w) A c' (fun r s' => match r with | .ok (.ret v) => Q v s' | .ok _ => False | .error e => E e s') s') E s) :
    wpAny (model prog w) A (call (.builtin id) args kw) Q E s := by
  refine wpAny_call (codeAny_call_builtin hp hb ?_); simp only [checkBuiltinCall, hk]
  cases hsig : Manifest.signature? id with
  | none => exact wpAny_pure hc
  | some sig =>
    have h2 : Bind.checkArgs id sig ⟨args, kw⟩ = pure () := by simpa only [argsOk, hsig] using ha
    simp only [h2]; exact wpAny_pure hc
theorem mx_walk {x d : Value} {Q : Value → Shared → Prop} (h : wpAny (model prog w) A.in1 (pyIter x) (MxIt prog w A Q) E s) : wpAny (model prog w) A (call (.builtin "max") [x] (dfl d)) Q E s := by
  have nm : (toString "max" ++ toString ".loop" : String) = "max.loop" := by decide
  refine call_treeK F.kind_max F.plain_max F.entry_max (args_maxD _ _) ?_
  show wpAny _ A.in1 (Builtin.Builtins.bindParams "max" ["key", "default"] 0 ⟨[], dfl d⟩ >>= _) _ _ s
  refine wpAny_bind (wpAny_of_eq (show Builtin.Builtins.bindParams "max" ["key", "default"] 0 ⟨[], dfl d⟩ = pure [none, some d] from rfl) (wpAny_bind (wpAny_pure (wpAny_bind (wpAny_mono h (fun it s₂ h₂ => ?_) fun _ _ e => e)))))
  obtain ⟨I, fp, wr, n, Pv, St, bt, rfl, W, hst, hfp, hn, hcmp, hQ⟩ := h₂
  refine wpAny_bind (wpAny_newObj_type ?_)
  have hB : s₂.heap.objs.size ∉ fp := fun hm => Nat.lt_irrefl _ (hfp _ hm); rw [nm]
  refine wpAny_pure ⟨plainId_quiet F.plain_max_loop _, mx_first W bt hcmp s₂.heap.objs.size hB hn (W.frame _ _ _ hst fun b _ o e => Heap.get?_push_of_some _ e) (Heap.get?_push_size _ rfl) fun v h' tk hv hk => ?_⟩
  exact hQ v h' tk hv fun b o hbw e => hk b o hbw (Nat.ne_of_lt (Heap.lt_size e)) (Heap.get?_push_of_some _ e)
theorem mx_list {l : Addr} {its : List Value} {ns : List Int} {d : Value} {Q : Value → Shared → Prop} (hh : A.handled = none) (hl : s.heap.IsList l its.toArray) (hi : IntsAre its ns) (hne : 0 < ns.length)
    (h : ∀ h' tk M t', (∀ b o, s.heap.get? b = some o → h'.get? b = some o) → M ∈ ns → (∀ a, a ∈ ns → a ≤ M) → Q (.int M t') { s with heap := h', toks := tk }) : wpAny (model prog w) A (call (.builtin "max") [.ref l] (dfl d)) Q E s := by
  obtain ⟨xs, e⟩ := hi.allInts.items; have hn : numsOf (intItems xs).toList = ns := by rw [← e]; exact hi.numsOf
  rw [nums_intItems] at hn; subst hn; rw [e] at hl
  have hsz : 0 < xs.size := by simpa using hne
  refine mx_walk (iter_intList hl fun s₂ e st hfp hlI => ?_); subst e
  refine ⟨_, _, _, _, _, _, _, rfl, Walks.list (A := A.in1) hh _ l hlI (intItems xs), st, hfp, by simpa [intItems] using hsz, CmpOf.ints_gt (numAt xs) (fun _ _ => intItems_at), fun v h' tk hP hk => ?_⟩
  have hv : (intItems xs)[argBest (fun i j => decide (numAt xs i > numAt xs j)) (xs.size - 1)]? = some v := by simpa [intItems] using hP
  obtain ⟨t, rfl⟩ := intItems_at hv
  obtain ⟨h1, h2⟩ := argBest_gt (numAt xs) (xs.size - 1)
  refine h h' tk _ t (old_kept hk) ?_ fun a ha => ?_
  · rw [numAt_eq]; exact PySem.getD_mem (by rw [List.length_map, Array.length_toList]; omega)
  · obtain ⟨j, hj, rfl⟩ := mem_getD ha; rw [List.length_map, Array.length_toList] at hj; rw [← numAt_eq]; exact h2 j (by omega)
end
section
variable {C : CI} {X : Cx}
def rMaxD (K : PySem.W.Frag) : List V → List V → Hp → VK → Prop := fun vs zs H Q => ∃ (a : Addr) (ns : List Int) (d : V), vs = [V.ref a] ∧ zs = [d] ∧ SqL K H a (ns.map V.int) ∧ 0 < ns.length ∧ ∀ m, m ∈ ns → (∀ y, y ∈ ns → y ≤ m) → Q (.int m) H
theorem ck_max (hc : X.calm = true) : CallRK X (.builtin "max") [Str.ofString "default"] (rMaxD X.K) := by
  intro pins s σ H vs zs us ws Q I r rz h
  obtain ⟨a, ns, d, rfl, rfl, hs, hne, q⟩ := h
  obtain ⟨its, rv, hl, _⟩ := I.list hs
  rw [Vals.ref1 r]; obtain ⟨w, rfl, _⟩ := vals1 rz
  exact mx_list (I.ok.hd hc) hl.isList rv.ints hne fun h' tk m t' hk h1 h2 => ⟨.int _, H, I.kept hk, ⟨_, rfl⟩, q m h1 h2⟩
/-- max(xs, default=d), xs with an item -/
def zMaxD (za zk : ZA) : ZE := fun Γ Δ P => za Γ Δ fun ds Δ1 => zk Γ Δ1 fun es Δ2 => ∃ (x d : D) (ns : List Int), ds = [x] ∧ es = [d] ∧ lstD Δ2 x = some (ns.map D.int) ∧ ns ≠ [] ∧ ∀ m, m ∈ ns → (∀ y, y ∈ ns → y ≤ m) → P (.int m) Δ2
theorem ez_maxD {x : Str} {p pos : Pos} {e : Expr} {es : List Expr} {kws : List Keyword} {za zk : ZA} (hm : X.mg x = none) (hv : bootBuiltins x = some (.builtin "max")) (ha : AZ C X (e :: es) za) (hk : KZ C X kws zk) (hc : X.calm = true := by rfl) (hg : Gl X x := by rfl) (hn : x ≠ "__name__" := by decide) (hdb : (x == ("__debug__" : Str)) = false := by decide)
    (he : backTo pos (starEach (e :: es) X.env) = (false, eval e X.env) :: backTo pos (starEach es X.env) := by rfl) (hpl : (backTo pos (starEach (e :: es) X.env)).any (·.1) = false := by rfl)
    (hall : (backToKw pos (keywordEach kws X.env)).all (·.1.isSome) = true := by rfl) (hnone : (backToKw pos (keywordEach kws X.env)).any (·.1.isNone) = false := by rfl) (hks : (backToKw pos (keywordEach kws X.env)).filterMap (·.1) = [Str.ofString "default"] := by rfl) :
    EZ C X (.Call (.Name x p) (e :: es) kws pos) (zMaxD za zk) := by
  obtain ⟨t, a1, a2⟩ := ha.ex
  obtain ⟨u, k1, k2⟩ := hk.ex
  refine ⟨_, pe_callBK (ck_max hc) hg hm hv a1 k1 hn hdb he hpl hall hnone hks, fun S A σ H Γ Δ P Q hs hc hz k => ?_⟩
  refine a2 S A σ H Γ Δ _ _ hs hc hz fun vs ds A1 H1 Δ1 e1 c1 r1 hz1 => k2 S A1 σ H1 Γ Δ1 _ _ (hs.ext e1) c1 hz1 fun zs es A2 H2 Δ2 e2 c2 r2 hz2 => ?_
  obtain ⟨x, d, ns, rfl, rfl, hl, hne, q⟩ := hz2
  obtain ⟨v, rfl, rv⟩ := one_rep (r1.ext e2)
  obtain ⟨w, rfl, rw'⟩ := one_rep r2
  obtain ⟨pa, ys, rfl, hq, rr⟩ := Rep.lst_ c2 rv hl
  obtain rfl := repL_int rr
  exact ⟨pa, ns, w, rfl, rfl, SqL.of hq, List.length_pos_iff.mpr hne, fun m h1 h2 => k _ _ A2 H2 Δ2 (e1.trans e2) c2 (.int _) (q m h1 h2)⟩
end
/-! ### a dict whose keys are ints, while it is made -/
def putI (k : Int) (v : D) (l : List (Int × D)) : List (Int × D) := if (l.any fun p => decide (p.1 = k)) = true then l.map (fun p => if p.1 = k then (p.1, v) else p) else l ++ [(k, v)]
def dctP (l : List (Int × D)) : D := .dct (l.map (·.1)) (l.map (·.2))
section
variable (K : PySem.W.Frag) (C : CI) (S A : List Addr) (H : Hp)
inductive RepP : List (Key × V) → List (Int × D) → Prop where
  | nil : RepP [] []
  | cons {k : Int} {v : V} {vs : List (Key × V)} {d : D} {ds : List (Int × D)} (h : Rep K C S A H v d) (r : RepP vs ds) : RepP ((Sum.inl k, v) :: vs) ((k, d) :: ds)
end
section
variable {K : PySem.W.Frag} {C : CI} {S S' A A' : List Addr} {H H' : Hp}
theorem RepP.mono (m : Mo S A H S' A' H') : ∀ {vs : List (Key × V)} {ds : List (Int × D)}, RepP K C S A H vs ds → RepP K C S' A' H' vs ds
  | _, _, .nil => .nil
  | _, _, .cons h r => .cons (Rep.mono m _ h) (RepP.mono m r)
theorem RepP.length : ∀ {vs : List (Key × V)} {ds : List (Int × D)}, RepP K C S A H vs ds → vs.length = ds.length
  | _, _, .nil => rfl
  | _, _, .cons _ r => congrArg (· + 1) (RepP.length r)
theorem RepP.any {k : Int} : ∀ {vs : List (Key × V)} {ds : List (Int × D)}, RepP K C S A H vs ds → (vs.any fun p => decide (p.1 = Sum.inl k)) = ds.any fun p => decide (p.1 = k)
  | _, _, .nil => rfl
  | _, _, .cons (k := j) h r => by
    rw [List.any_cons, List.any_cons, RepP.any r]
    by_cases e : j = k
    · subst e; simp
    · have e' : ¬ (Sum.inl j : Key) = Sum.inl k := fun q => e (Sum.inl.inj q)
      rw [decide_eq_false e, decide_eq_false e']
theorem RepP.snoc {k : Int} {v : V} {d : D} (h : Rep K C S A H v d) : ∀ {vs : List (Key × V)} {ds : List (Int × D)}, RepP K C S A H vs ds → RepP K C S A H (vs ++ [(Sum.inl k, v)]) (ds ++ [(k, d)])
  | _, _, .nil => .cons h .nil
  | _, _, .cons h' r => .cons h' (RepP.snoc h r)
theorem RepP.over {k : Int} {v : V} {d : D} (h : Rep K C S A H v d) : ∀ {vs : List (Key × V)} {ds : List (Int × D)}, RepP K C S A H vs ds → RepP K C S A H (vs.map fun p => if p.1 = Sum.inl k then (p.1, v) else p) (ds.map fun p => if p.1 = k then (p.1, d) else p)
  | _, _, .nil => .nil
  | _, _, .cons (k := j) h' r => by
    rw [List.map_cons, List.map_cons]
    by_cases e : j = k
    · subst e
      simp only [if_true]
      exact .cons h (RepP.over h r)
    · have e' : ¬ (Sum.inl j : Key) = Sum.inl k := fun q => e (Sum.inl.inj q)
      rw [if_neg e, if_neg e']
      exact .cons h' (RepP.over h r)
theorem RepP.put {k : Int} {v : V} {d : D} {vs : List (Key × V)} {ds : List (Int × D)} (r : RepP K C S A H vs ds) (h : Rep K C S A H v d) : RepP K C S A H (putK vs (Sum.inl k) v) (putI k d ds) := by
  unfold putK putI
  rw [RepP.any r]
  split
  · exact RepP.over h r
  · exact RepP.snoc h r
theorem RepP.zip : ∀ {vs : List (Key × V)} {ds : List (Int × D)}, RepP K C S A H vs ds → vs = ((ds.map (·.1)).map Sum.inl).zip (vs.map (·.2)) ∧ RepL K C S A H (vs.map (·.2)) (ds.map (·.2))
  | _, _, .nil => ⟨rfl, .nil⟩
  | _, _, .cons h r => by
    obtain ⟨h1, h2⟩ := RepP.zip r
    refine ⟨?_, .cons h h2⟩
    rw [List.map_cons, List.map_cons, List.map_cons, List.zip_cons_cons, ← h1]
theorem RepP.of : ∀ {ks : List Int} {xs : List V} {ds : List D}, xs.length = ks.length → RepL K C S A H xs ds → RepP K C S A H ((ks.map Sum.inl).zip xs) (ks.zip ds)
  | [], [], _, _, .nil => .nil
  | k :: ks, x :: xs, _, e, .cons h r => .cons h (RepP.of (by simpa using e) r)
theorem RepP.rep {q : Addr} {vs : List (Key × V)} {ds : List (Int × D)} (h : H q = some (.dK vs)) (hA : q ∉ A) (hS : q ∉ S) (r : RepP K C S A H vs ds) : Rep K C S A H (.ref q) (dctP ds) := by
  obtain ⟨h1, h2⟩ := RepP.zip r
  refine .dct (xs := vs.map (·.2)) (by rw [← h1]; exact h) hA hS ?_ h2
  rw [List.length_map, List.length_map, r.length]
theorem RepP.get {k : Int} {d : D} : ∀ {vs : List (Key × V)} {ds : List (Int × D)}, RepP K C S A H vs ds → ds.lookup k = some d → ∃ v, valV vs (Sum.inl k) = some v ∧ Rep K C S A H v d
  | _, _, .nil, e => by cases e
  | _, _, .cons (k := j) (d := d') (ds := ds) (v := v) h r, e => by
    by_cases q : j = k
    · subst q
      rw [List.lookup_cons_self] at e
      cases e
      exact ⟨v, valV_pos rfl, h⟩
    · rw [List.lookup_cons, show (k == j) = false from by simp; exact fun z => q z.symm] at e
      obtain ⟨w, h1, h2⟩ := RepP.get r e
      exact ⟨w, by rw [valV_neg fun z => q (Sum.inl.inj z)]; exact h1, h2⟩
end
/-! ### {k: v for target in iter if ..} -/
def dcZ (zg : ZG) (zt : ZT) (zk zv : ZE) (Γ0 : Env) (P : D → Store → Prop) : List D → List (Int × D) → Store → Prop
  | [], acc, Δ => P (dctP acc) Δ
  | x :: xs, acc, Δ => zg x Γ0 Δ fun Γ2 Δ2 => zt Γ2 Δ2 fun b Δ3 => (b = true → zk Γ2 Δ3 fun y Δ4 => zv Γ2 Δ4 fun z Δ5 => ∃ k, y = .int k ∧ acc.length < 100000 ∧ dcZ zg zt zk zv Γ0 P xs (putI k z acc) Δ5) ∧ (b = false → dcZ zg zt zk zv Γ0 P xs acc Δ3)
def zDc (zi : ZI) (zg : ZG) (zt : ZT) (zk zv : ZE) (vs : List Nat) : ZE := fun Γ Δ P => zi Γ Δ fun items Δ1 => dcZ zg zt zk zv (wipeZ Γ vs) P items [] Δ1
section
variable {K : PySem.W.Frag} {C : CI} {S : List Addr} {q : Addr}
theorem growD_mo {A : List Addr} {H : Hp} {l : List (Key × V)} : Mo (q :: S) A H (q :: S) A (upd H q (.dK l)) := ⟨⟨[], by simp, by simp⟩, fun _ h => .inl h, fun a o _ h2 h3 => by
  rw [upd_ne (fun h => h2 (by rw [h]; exact List.mem_cons_self))]; exact h3⟩
theorem growD_cells {A : List Addr} {H : Hp} {Δ : Store} {l : List (Key × V)} (c : Cells K C (q :: S) A H Δ) : Cells K C (q :: S) A (upd H q (.dK l)) Δ := by
  have hq : q ∉ A := fun h => c.dj q h List.mem_cons_self
  refine ⟨c.len, c.nd, c.dj, fun a ha h => ?_, fun n a o h1 h2 => (c.at_ n a o h1 h2).mono growD_mo fun u h => ?_⟩
  · by_cases hb : a = q
    · subst hb; rw [upd_same] at h; cases h
    · rw [upd_ne hb] at h; exact c.as a ha h
  · rw [upd_ne (fun hb => hq (by rw [← hb]; exact List.mem_of_getElem? h1))]; exact h
/-- what the new dict at q is, all along -/
structure AtD (K : PySem.W.Frag) (C : CI) (S : List Addr) (q : Addr) (A0 : List Addr) (H0 : Hp) (A : List Addr) (H : Hp) (Δ : Store) (acc : List (Int × D)) : Prop where
  mo : Mo (q :: S) A0 H0 (q :: S) A H
  trk : ∀ a, H a = none → H0 a = none
  kp : ∀ a o, a ∉ A0 → a ≠ q → H0 a = some o → H a = some o
  cells : Cells K C (q :: S) A H Δ
  dct : ∃ accV, H q = some (.dK accV) ∧ RepP K C (q :: S) A H accV acc
theorem AtD.ext {A0 A A' : List Addr} {H0 H H' : Hp} {Δ Δ' : Store} {acc : List (Int × D)} (h : AtD K C S q A0 H0 A H Δ acc) (e : Ext A H A' H') (c : Cells K C (q :: S) A' H' Δ') : AtD K C S q A0 H0 A' H' Δ' acc := by
  obtain ⟨accV, h1, h2⟩ := h.dct
  have hq : q ∉ A := fun z => h.cells.dj q z List.mem_cons_self
  obtain ⟨B, hB, nB⟩ := h.mo.pre
  obtain ⟨B', hB', nB'⟩ := e.pre
  have hin : ∀ a o, a ∈ A → H0 a = some o → a ∈ A0 := fun a o ha ho => by
    rw [hB] at ha
    rcases List.mem_append.mp ha with ha | ha
    · exact ha
    · rw [nB a ha] at ho; cases ho
  refine ⟨⟨⟨B ++ B', by rw [hB', hB, List.append_assoc], fun b hb => ?_⟩, fun _ z => .inl z, fun a o g1 g2 g3 => ?_⟩, fun a z => h.trk a (e.trk a z), fun a o g1 g2 g3 => ?_, c, accV, e.keep q _ hq h1, h2.mono e.mo⟩
  · rcases List.mem_append.mp hb with hb | hb
    · exact nB b hb
    · exact h.trk b (nB' b hb)
  · exact e.keep a o (fun z => g1 (hin a o z g3)) (h.mo.keep a o g1 g2 g3)
  · exact e.keep a o (fun z => g1 (hin a o z g3)) (h.kp a o g1 g2 g3)
theorem AtD.grow {A0 A : List Addr} {H0 H : Hp} {Δ : Store} {acc : List (Int × D)} {accV : List (Key × V)} {y : V} {d : D} {k : Int} (h : AtD K C S q A0 H0 A H Δ acc) (h1 : H q = some (.dK accV)) (h2 : RepP K C (q :: S) A H accV acc) (r : Rep K C (q :: S) A H y d) : AtD K C S q A0 H0 A (upd H q (.dK (putK accV (Sum.inl k) y))) Δ (putI k d acc) := by
  refine ⟨⟨h.mo.pre, fun _ z => .inl z, fun a o g1 g2 g3 => ?_⟩, fun a z => ?_, fun a o g1 g2 g3 => ?_, growD_cells h.cells, _, upd_same, (h2.put r).mono growD_mo⟩
  · rw [upd_ne (fun z => g2 (by rw [z]; exact List.mem_cons_self))]; exact h.mo.keep a o g1 g2 g3
  · by_cases hb : a = q
    · subst hb; rw [upd_same] at z; cases z
    · rw [upd_ne hb] at z; exact h.trk a z
  · rw [upd_ne g2]; exact h.kp a o g1 g2 g3
theorem AtD.here {A : List Addr} {H : Hp} {Δ : Store} {acc : List (Int × D)} (c : Cells K C (q :: S) A H Δ) (l : ∃ accV, H q = some (.dK accV) ∧ RepP K C (q :: S) A H accV acc) : AtD K C S q A H A H Δ acc :=
  ⟨⟨⟨[], by simp, by simp⟩, fun _ z => .inl z, fun _ _ _ _ h => h⟩, fun _ h => h, fun _ _ _ _ h => h, c, l⟩
theorem ref_dc {wi : TI} {g : TG} {tt : TT} {tk tv : TE} {vs : List Nat} {zi : ZI} {zg : ZG} {zt : ZT} {zk zv : ZE} (hi : RefI K C wi zi) (hg : RefG K C g zg) (ho : Own g vs) (ht : RefT K C tt zt) (hk : RefE K C tk zk) (hv : RefE K C tv zv) :
    RefE K C (tDc wi g tt tk tv vs) (zDc zi zg zt zk zv vs) := fun S A σ H Γ Δ P Q hs hc hz k => hi S A σ H Γ Δ _ _ hs hc hz fun J n G Y items A1 H1 Δ1 e1 c1 p hn w hG hY q hq => by
  have s1 := hs.ext e1
  have mo0 : Mo S A1 H1 (q :: S) A1 (upd H1 q (.dK [])) := ⟨⟨[], by simp, by simp⟩, fun b hb => by
    rcases List.mem_cons.mp hb with rfl | hb
    · exact .inr hq
    · exact .inl hb, fun a o _ _ h => by rw [upd_ne (ne_of_none h hq)]; exact h⟩
  have cells0 : Cells K C (q :: S) A1 (upd H1 q (.dK [])) Δ1 := by
    refine ⟨c1.len, c1.nd, fun a ha hb => ?_, fun a ha h => ?_, fun n a o h1 h2 => (c1.at_ n a o h1 h2).mono mo0 fun u h => by rw [upd_ne (ne_of_none h hq)]; exact h⟩
    · rcases List.mem_cons.mp hb with rfl | hb
      · exact c1.fresh hq ha
      · exact c1.dj a ha hb
    · rcases List.mem_cons.mp ha with rfl | ha
      · rw [upd_same] at h; cases h
      · exact c1.as a ha ((Ext.new (A := A1) hq).trk a h)
  have mo2 : ∀ {A2 : List Addr} {H2 : Hp} {Δ2 : Store} {acc : List (Int × D)}, AtD K C S q A1 (upd H1 q (.dK [])) A2 H2 Δ2 acc → Mo S A1 H1 (q :: S) A2 H2 := fun {A2 H2 Δ2 acc} a => by
    obtain ⟨B, hB, nB⟩ := a.mo.pre
    refine ⟨⟨B, hB, fun b hb => (Ext.new (A := A1) hq).trk b (nB b hb)⟩, mo0.sub, fun x o h1 h2 h3 => ?_⟩
    have hx := ne_of_none h3 hq
    exact a.kp x o h1 hx (by rw [upd_ne hx]; exact h3)
  have ext2 : ∀ {A2 : List Addr} {H2 : Hp} {Δ2 : Store} {acc : List (Int × D)}, AtD K C S q A1 (upd H1 q (.dK [])) A2 H2 Δ2 acc → Ext A1 H1 A2 H2 := fun {A2 H2 Δ2 acc} a => by
    obtain ⟨B, hB, nB⟩ := a.mo.pre
    refine ⟨⟨B, hB, fun b hb => (Ext.new (A := A1) hq).trk b (nB b hb)⟩, fun x o h1 h3 => ?_, fun x h => (Ext.new (A := A1) hq).trk x (a.trk x h)⟩
    have hx := ne_of_none h3 hq
    exact a.kp x o h1 hx (by rw [upd_ne hx]; exact h3)
  refine ⟨fun i m H2 => m = n - i ∧ i ≤ n ∧ ∃ A2 Δ2 acc, AtD K C S q A1 (upd H1 q (.dK [])) A2 H2 Δ2 acc ∧ dcZ zg zt zk zv (wipeZ Γ vs) P (items.drop i) acc Δ2, ⟨n, by simp, Nat.zero_le _, A1, Δ1, [], .here cells0 ⟨[], upd_same, .nil⟩, p⟩, ?_⟩
  rintro i m H2 ⟨rfl, hin, A2, Δ2, acc, a0, p2⟩
  have gg := hG (q :: S) A2 H2 (mo2 a0)
  by_cases hlt : i < n
  · refine .inr ⟨w.goes i H2 hlt gg, fun H' => ∃ A2 Δ2 acc, AtD K C S q A1 (upd H1 q (.dK [])) A2 H' Δ2 acc ∧ dcZ zg zt zk zv (wipeZ Γ vs) P (items.drop (i + 1)) acc Δ2, fun H' p' => ⟨n - (i + 1), by omega, rfl, hlt, p'⟩, fun x H3 y => ?_⟩
    obtain ⟨d, q1, q2, q3⟩ := hY (q :: S) A2 H2 Δ2 i x H3 hlt (mo2 a0) a0.cells (w.yields i H2 x H3 hlt gg y)
    rw [drop_cons q1] at p2
    have e3 : Ext A2 H2 A2 H3 := Ext.kept q2
    have c3 := a0.cells.kept q2
    have s3 : Slots K C (q :: S) A2 H3 (wipe σ vs) (wipeZ Γ vs) := ((s1.mono (mo2 a0)).ext e3).wipe vs
    have h5 := hg (q :: S) A2 (wipe σ vs) H3 (wipeZ Γ vs) Δ2 x d _ (fun σ4 H4 => tt σ4 H4 fun b H5 => if b = true then tk σ4 H5 fun y H4 => tv σ4 H4 fun z H5 => ∃ kvs k, y = kV k ∧ H5 q = some (.dK kvs) ∧ kvs.length < sizeLine ∧ ∃ A2 Δ2 acc, AtD K C S q A1 (upd H1 q (.dK [])) A2 (upd H5 q (.dK (putK kvs k z))) Δ2 acc ∧ dcZ zg zt zk zv (wipeZ Γ vs) P (items.drop (i + 1)) acc Δ2
        else ∃ A2 Δ2 acc, AtD K C S q A1 (upd H1 q (.dK [])) A2 H5 Δ2 acc ∧ dcZ zg zt zk zv (wipeZ Γ vs) P (items.drop (i + 1)) acc Δ2) s3 c3 q3 p2 fun σ4 A4 H4 Γ4 Δ4 e4 s4 c4 p4 => by
      refine ht (q :: S) A4 σ4 H4 Γ4 Δ4 _ _ s4 c4 p4 fun b A5 H5 Δ5 e5 c5 p5 => ?_
      have b0 := ((a0.ext e3 c3).ext e4 c4).ext e5 c5
      cases b with
      | false => exact iteF ⟨A5, Δ5, acc, b0, p5.2 rfl⟩
      | true =>
        refine iteT (hk (q :: S) A5 σ4 H5 Γ4 Δ5 _ _ (s4.ext e5) c5 (p5.1 rfl) fun y dy A6 H6 Δ6 e6 c6 r6 p6 => ?_)
        refine hv (q :: S) A6 σ4 H6 Γ4 Δ6 _ _ ((s4.ext e5).ext e6) c6 p6 fun z dz A7 H7 Δ7 e7 c7 r7 p7 => ?_
        have d0 := (b0.ext e6 c6).ext e7 c7
        obtain ⟨j, rfl, hlen, p7⟩ := p7
        cases r6
        obtain ⟨accV, l1, l2⟩ := d0.dct
        exact ⟨accV, Sum.inl j, rfl, l1, lt_line (by rw [l2.length]; exact hlen), A7, Δ7, _, d0.grow l1 l2 r7, p7⟩
    have fin := ho _ _ _ _ h5
    rw [wipe_wipe] at fin
    exact fin
  · have e : i = n := by omega
    subst e
    rw [hn, List.drop_length] at p2
    refine .inl ⟨w.stops H2 gg, ?_⟩
    obtain ⟨accV, l1, l2⟩ := a0.dct
    have c2 := a0.cells
    have hq2 : q ∉ A2 := fun h => c2.dj q h List.mem_cons_self
    have mo8 : Mo (q :: S) A2 H2 S A2 H2 := ⟨⟨[], by simp, by simp⟩, fun b hb => .inl (List.mem_cons_of_mem _ hb), fun _ _ _ _ h => h⟩
    exact k _ _ A2 H2 Δ2 (e1.trans (ext2 a0)) ⟨c2.len, c2.nd, fun a ha hb => c2.dj a ha (List.mem_cons_of_mem _ hb), fun a ha => c2.as a (List.mem_cons_of_mem _ ha), fun n a o h1 h2 => (c2.at_ n a o h1 h2).mono mo8 fun _ h => h⟩
      (RepP.rep l1 hq2 (c1.aside hq) (l2.mono mo8)) p2
end
section
variable {C : CI} {X : Cx}
theorem ez_dc {kx vx tg iter : Expr} {ifs : List Expr} {scope : Scope} {own : List (Str × Nat)} {pos : Pos} {zi : ZI} {g : TG} {zg : ZG} {zt : ZT} {zk zv : ZE} (hN : X.N.Nodup) (hi : IZ C X tg iter zi) (ok : BlkOk X.N X.env.scope scope own) (ho : Own g (own.map (·.2))) (hr : RefG X.K C g zg)
    (hg : ∀ (s : Shared) (H : Hp) (Ca : Addr) (cl : List (Str × Addr)) (fp : List Addr), PG (X.blk s H scope (compEnvC scope cl Ca X.env) fp) tg g)
    (ht : ∀ (s : Shared) (H : Hp) (Ca : Addr) (cl : List (Str × Addr)) (fp : List Addr), TsZ C (X.blk s H scope (compEnvC scope cl Ca X.env) fp) ifs zt)
    (hk : ∀ (s : Shared) (H : Hp) (Ca : Addr) (cl : List (Str × Addr)) (fp : List Addr), EZ C (X.blk s H scope (compEnvC scope cl Ca X.env) fp) kx zk)
    (hv : ∀ (s : Shared) (H : Hp) (Ca : Addr) (cl : List (Str × Addr)) (fp : List Addr), EZ C (X.blk s H scope (compEnvC scope cl Ca X.env) fp) vx zv)
    (hc : X.calm = true := by rfl) (hs : ∀ x, foldedSetIterable iter X.env x = pure x := by intro _; rfl) :
    EZ C X (.DictComp kx vx [⟨tg, iter, ifs, 0⟩] scope pos) (zDc zi zg zt zk zv (own.map (·.2))) := by
  obtain ⟨wi, i1, i2⟩ := hi.ex
  exact ⟨_, pe_dc hc hN i1 ok hg (fun s H Ca cl fp => (ht s H Ca cl fp).up) (fun s H Ca cl fp => (hk s H Ca cl fp).up) (fun s H Ca cl fp => (hv s H Ca cl fp).up) hs, ref_dc i2 hr ho ref_upT ref_up ref_up⟩
/-! ### d[k] of such a dict; sorted(d) -/
/-- what a value is as a dict -/
def dctOf (Δ : Store) : D → Option (List (Int × D))
  | .dct ks ds => some (ks.zip ds)
  | .cell n => match Δ[n]? with
    | some (.dct ks ds) => some (ks.zip ds)
    | _ => none
  | _ => none
theorem Rep.dctOf {K : PySem.W.Frag} {S A : List Addr} {H : Hp} {Δ : Store} {x : V} {d : D} {ds : List (Int × D)} (hc : Cells K C S A H Δ) (r : Rep K C S A H x d) (h : Z.dctOf Δ d = some ds) :
    ∃ p vs, x = .ref p ∧ H p = some (.dK vs) ∧ RepP K C S A H vs ds := by
  cases r with
  | dct h1 hA hS hl r => cases h; exact ⟨_, _, rfl, h1, RepP.of hl r⟩
  | cell h1 =>
    rename_i n
    unfold Z.dctOf at h
    cases q : Δ[n]? with
    | none => simp only [q] at h; cases h
    | some o =>
      cases o with
      | lst _ => simp only [q] at h; cases h
      | ins _ _ => simp only [q] at h; cases h
      | dct ks es =>
        simp only [q] at h
        cases h
        obtain ⟨xs, e1, e2, e3⟩ := hc.at_ n _ _ h1 q
        exact ⟨_, _, rfl, e1, RepP.of e2 e3⟩
  | _ => cases h
def zDGet (za zb : ZE) : ZE := fun Γ Δ P => za Γ Δ fun x Δ1 => zb Γ Δ1 fun y Δ2 => ∃ (ds : List (Int × D)) (k : Int) (d : D), dctOf Δ2 x = some ds ∧ y = .int k ∧ ds.lookup k = some d ∧ P d Δ2
theorem ez_dget {a b : Expr} {pos : Pos} {za zb : ZE} (hu64 : X.A.units + 64 < cLine) (ha : EZ C X a za) (hb : EZ C X b zb) (hp : NoSl b := by first | trivial | exact fun _ _ => rfl | decide) : EZ C X (.Subscript a b pos) (zDGet za zb) := by
  obtain ⟨ta, a1, a2⟩ := ha.ex
  obtain ⟨tb, b1, b2⟩ := hb.ex
  have hu : X.A.units + 1 < cLine := Nat.lt_of_le_of_lt (Nat.add_le_add_left (by decide) _) hu64
  refine ⟨_, pe_dget hu a1 b1 hp, fun S A σ H Γ Δ P Q hs hc hz k => a2 S A σ H Γ Δ _ _ hs hc hz fun x dx A1 H1 Δ1 e1 c1 r1 hz1 => b2 S A1 σ H1 Γ Δ1 _ _ (hs.ext e1) c1 hz1 fun y dy A2 H2 Δ2 e2 c2 r2 hz2 => ?_⟩
  obtain ⟨ds, j, d, h1, rfl, h3, p⟩ := hz2
  obtain ⟨pa, vs, rfl, g1, g2⟩ := Rep.dctOf c2 (r1.ext e2) h1
  obtain ⟨v, w1, w2⟩ := g2.get h3
  cases r2
  refine ⟨pa, v, rfl, ?_, k v d A2 H2 Δ2 (e1.trans e2) c2 w2 p⟩
  have := DGet.k (k := Sum.inl j) g1
  rw [w1] at this
  exact this
/-- sorted(d), keys ints, any number of them -/
def rSortDI : List V → Hp → VK → Prop := fun xs H Q => ∃ (a : Addr) (kvs : List (Key × V)) (ks : List Int), xs = [.ref a] ∧ Rd H a (.dK kvs) ∧ kvs.map (·.1) = ks.map Sum.inl ∧ ∀ (ys : List Int) (p : Addr), ys.Perm ks → ys.Pairwise (· ≤ ·) → H p = none → Q (.ref p) (upd H p (.lst (ys.map V.int)))
theorem cr_sortDI (hcalm : X.calm = true) : CallR X (.builtin "sorted") rSortDI := by
  intro pins s σ H xs us Q I r q
  obtain ⟨a, kvs, ks, rfl, hd, hks, q⟩ := q
  obtain ⟨u, rfl, rx⟩ := vals1 r; cases rx
  obtain ⟨z, lo, vs, rel, dd⟩ := dk_rd I.hok hd; obtain ⟨ep, hat⟩ := dd.dictAt
  have hkeys : vs.map (·.1) = ks.map Sum.inl := rel.keys.symm.trans hks
  have hl : vs.length = ks.length := by
    have e := congrArg List.length hkeys
    simpa using e
  have h16 : vs.length ≤ sizeLine := by rw [← rel.length]; exact z
  refine Calls.call_function_entry kind_sorted plain_sorted entry_sorted (args_sorted1 _) ?_
  unfold Builtin.«sorted»
  refine wpAny_bind (m := checkCount "sorted" 1 1 _) (wpAny_pure (wpAny_bind (PySem.W.kdu_collect (A := X.A.in1) (PySem.W.kdl_dict (knd := mixKind X.prog X.w) (kvs := vs) (ep := ep) lo) (I.ok.hd hcalm) hat h16 fun h' tk acc hk hacc => ?_)))
  have hal : acc.toList.length = ks.length := by rw [Array.length_toList, hacc.1, hl]
  have hS : IntsAre acc.toList ks := ints_each hal fun j v e => by
    obtain ⟨k, x, e1, e2⟩ := hacc.2 j v (by rw [← Array.getElem?_toList]; exact e); have e3 : (vs.map (·.1))[j]? = some k := by rw [List.getElem?_map, e1]; rfl
    rw [hkeys, List.getElem?_map] at e3
    cases e4 : ks[j]? with
    | none => rw [e4] at e3; cases e3
    | some y =>
      rw [e4] at e3; obtain rfl : Sum.inl y = k := Option.some.inj e3
      rcases keyIs_shape (show keyIs (Sum.inl y) v = true from e2) with ⟨i, t, ek, ev⟩ | ⟨z, t, ek, ev⟩
      · cases ek; exact ⟨y, t, rfl, ev⟩
      · cases ek
  have I1 : Inv X pins σ H { s with heap := h', toks := tk } := I.kept hk
  have hz2 : acc.toList.length ≤ sizeLine := by rw [hal, ← hl]; exact h16
  refine wpAny_bind (wpAny_newList ?_ hz2)
  have ho : (h'.push (seqObj "list" acc.toList.toArray 0)).get? h'.objs.size = some (seqObj "list" acc.toList.toArray 0) := Heap.get?_push_size _ rfl
  show wpAny _ _ _ _ _ { s with heap := h'.push (seqObj "list" acc.toList.toArray 0), toks := tk }
  refine wpAny_bind (wpAny_holding (wpAny_call_entry slot_list_sort ⟨_, ho, rfl⟩ entry_list_sort (SrtO.list_sort_ord (s := { s with heap := h'.push (seqObj "list" acc.toList.toArray 0), toks := tk }) SrtO.swo_int ho hz2 (fun h2 => SrtO.ints_sortable hS h2) fun out h1 h2 => ⟨_, rfl, ?_⟩) (args_list_sort _)))
  obtain ⟨k1, k2, k3⟩ := SrtO.ints_out hS h1 h2
  obtain ⟨e', he'⟩ := sortedHeap_at (vs := acc.toList) (out := out.toArray) ho
  have hlen : ((out.map SrtO.iv).map V.int).length ≤ sizeLine := by rw [List.length_map, k2.length_eq, ← hl]; exact h16
  refine wpAny_pure ⟨_, rfl, .ref h'.objs.size, upd H h'.objs.size (.lst ((out.map SrtO.iv).map V.int)), I1.laid (t' := tk) (fun b u e => ?_) (Nat.le_refl _)
    (show ObjOk X.prog X.w _ _ _ (.lst ((out.map SrtO.iv).map V.int)) from ⟨hlen, out, e', vals_of_ints k1, he'⟩), rfl, q _ _ k2 k3 (I1.hok.fresh (Nat.le_refl _))⟩
  have hb : b < h'.objs.size := Heap.lt_size e
  rw [sortedHeap_old (Nat.ne_of_lt hb) (by rw [size_push']; exact Nat.lt_succ_of_lt hb)]
  exact Heap.get?_push_of_some _ e
def zSortD : ZRC := fun ds Δ P => ∃ (x : D) (l : List (Int × D)), ds = [x] ∧ dctOf Δ x = some l ∧ ∀ ys : List Int, ys.Perm (l.map (·.1)) → ys.Pairwise (· ≤ ·) → P (.lst (ys.map D.int)) Δ
theorem RepP.keys {K : PySem.W.Frag} {S A : List Addr} {H : Hp} : ∀ {vs : List (Key × V)} {ds : List (Int × D)}, RepP K C S A H vs ds → vs.map (·.1) = (ds.map (·.1)).map Sum.inl
  | _, _, .nil => rfl
  | _, _, .cons h r => by rw [List.map_cons, List.map_cons, List.map_cons, RepP.keys r]
theorem cz_sortD (hc : X.calm = true := by rfl) : CallZ C X (.builtin "sorted") zSortD := ⟨_, cr_sortDI hc, fun S A H Δ xs ds P Q hc r hz k => by
  obtain ⟨x, l, rfl, hd, q⟩ := hz
  obtain ⟨v, rfl, rv⟩ := one_rep r
  obtain ⟨pa, vs, rfl, g1, g2⟩ := Rep.dctOf hc rv hd
  refine ⟨pa, vs, l.map (·.1), rfl, .inl g1, g2.keys, fun ys p h1 h2 hp => ?_⟩
  have e : Ext A H A (upd H p (.lst (ys.map V.int))) := Ext.new hp
  have hpA : p ∉ A := hc.fresh hp
  refine k _ _ A _ Δ e (hc.kept fun a o h => by rw [upd_ne (ne_of_none h hp)]; exact h) (.lst upd_same hpA (hc.aside hp) (repL_ints ys)) (q ys h1 h2)⟩
end
/-! ### lists and dicts that a comprehension makes, as cells -/
def asCell (P : D → Store → Prop) : D → Store → Prop := fun d Δ => ∃ ds, d = .lst ds ∧ P (.cell Δ.length) (Δ ++ [.lst ds])
def zLcC (zi : ZI) (zg : ZG) (zt : ZT) (ze : ZE) (vs : List Nat) : ZE := fun Γ Δ P => zi Γ Δ fun items Δ1 => compZ zg zt ze (wipeZ Γ vs) (asCell P) items [] Δ1
section
variable {K : PySem.W.Frag} {C : CI} {S A : List Addr} {H : Hp} {q : Addr}
theorem nin_snoc {a : Addr} (h1 : a ∉ A) (h2 : a ∉ q :: S) : a ∉ A ++ [q] := fun h => by
  rcases List.mem_append.mp h with h | h
  · exact h1 h
  · rw [List.mem_singleton] at h
    exact h2 (by rw [h]; exact List.mem_cons_self)
mutual
theorem Rep.unaside : ∀ {v : V} {d : D}, Rep K C (q :: S) A H v d → q ∉ A → q ∉ S → Rep K C S (A ++ [q]) H v d
  | _, .non, h, _, _ => by cases h; exact .non
  | _, .bl b, h, _, _ => by cases h; exact .bl b
  | _, .int i, h, _, _ => by cases h; exact .int i
  | _, .str x, h, _, _ => by cases h; exact .str x
  | _, .ty n, h, _, _ => by cases h; exact .ty n
  | _, .cls c, h, _, _ => by cases h; exact .cls c
  | _, .tup ds, h, h1, h2 => by cases h with | tup h hA hS r => exact .tup h (nin_snoc hA hS) (fun z => hS (List.mem_cons_of_mem _ z)) (RepL.unaside r h1 h2)
  | _, .lst ds, h, h1, h2 => by cases h with | lst h hA hS r => exact .lst h (nin_snoc hA hS) (fun z => hS (List.mem_cons_of_mem _ z)) (RepL.unaside r h1 h2)
  | _, .ins c ds, h, h1, h2 => by cases h with | ins h hA hS hl r => exact .ins h (nin_snoc hA hS) (fun z => hS (List.mem_cons_of_mem _ z)) hl (RepL.unaside r h1 h2)
  | _, .dct ks ds, h, h1, h2 => by cases h with | dct h hA hS hl r => exact .dct h (nin_snoc hA hS) (fun z => hS (List.mem_cons_of_mem _ z)) hl (RepL.unaside r h1 h2)
  | _, .cell n, h, _, _ => by
    cases h with
    | cell h => exact .cell (by rw [List.getElem?_append_left (List.getElem?_eq_some_iff.mp h).1]; exact h)
  | _, .scr ns, h, _, _ => by
    cases h with
    | scr h =>
      rcases h with ⟨h, hA, hS⟩ | h
      · exact .scr (.inl ⟨h, nin_snoc hA hS, fun z => hS (List.mem_cons_of_mem _ z)⟩)
      · exact .scr (.inr h)
theorem RepL.unaside : ∀ {vs : List V} {ds : List D}, RepL K C (q :: S) A H vs ds → q ∉ A → q ∉ S → RepL K C S (A ++ [q]) H vs ds
  | _, [], h, _, _ => by cases h; exact .nil
  | _, d :: ds, h, h1, h2 => by
    cases h with
    | cons h r => exact .cons (Rep.unaside h h1 h2) (RepL.unaside r h1 h2)
end
theorem RepP.unaside : ∀ {vs : List (Key × V)} {ds : List (Int × D)}, RepP K C (q :: S) A H vs ds → q ∉ A → q ∉ S → RepP K C S (A ++ [q]) H vs ds
  | _, _, .nil, _, _ => .nil
  | _, _, .cons h r, h1, h2 => .cons (h.unaside h1 h2) (RepP.unaside r h1 h2)
theorem Cells.unset {Δ : Store} {o : O} (c : Cells K C (q :: S) A H Δ) (hS : q ∉ S) (ho : CellAt K C S (A ++ [q]) H q o) : Cells K C S (A ++ [q]) H (Δ ++ [o]) := by
  have hq : q ∉ A := fun h => c.dj q h List.mem_cons_self
  refine ⟨by rw [List.length_append, List.length_append, c.len] <;> rfl, ?_, fun a ha hb => ?_, fun a ha => c.as a (List.mem_cons_of_mem _ ha), fun n a o' h1 h2 => ?_⟩
  · refine List.nodup_append.mpr ⟨c.nd, by simp, fun a ha b hb e => ?_⟩
    rw [List.mem_singleton] at hb
    subst hb; subst e
    exact hq ha
  · rcases List.mem_append.mp ha with ha | ha
    · exact c.dj a ha (List.mem_cons_of_mem _ hb)
    · rw [List.mem_singleton] at ha
      subst ha
      exact hS hb
  · by_cases hn : n < A.length
    · rw [List.getElem?_append_left hn] at h1
      rw [List.getElem?_append_left (by rw [← c.len]; exact hn)] at h2
      have g := c.at_ n a o' h1 h2
      cases o' with
      | lst ds => obtain ⟨xs, e, r⟩ := g; exact ⟨xs, e, r.unaside hq hS⟩
      | ins k fs => obtain ⟨dx, xs, e, z, r⟩ := g; exact ⟨dx, xs, e, z, r.unaside hq hS⟩
      | dct ks ds => obtain ⟨xs, e, z, r⟩ := g; exact ⟨xs, e, z, r.unaside hq hS⟩
    · have e1 : n = A.length := by
        have := (List.getElem?_eq_some_iff.mp h1).1
        rw [List.length_append] at this
        simp at this
        omega
      subst e1
      rw [List.getElem?_append_right (Nat.le_refl _), Nat.sub_self] at h1
      rw [c.len, List.getElem?_append_right (Nat.le_refl _), Nat.sub_self] at h2
      cases h1; cases h2
      exact ho
theorem Ext.cellIn {A0 A2 : List Addr} {H0 H2 : Hp} (e : Ext A0 H0 A2 H2) (hq : H0 q = none) (hq2 : q ∉ A2) : Ext A0 H0 (A2 ++ [q]) H2 := by
  obtain ⟨B, hB, nB⟩ := e.pre
  refine ⟨⟨B ++ [q], by rw [hB, List.append_assoc], fun b hb => ?_⟩, e.keep, e.trk⟩
  rcases List.mem_append.mp hb with hb | hb
  · exact nB b hb
  · rw [List.mem_singleton] at hb; subst hb; exact hq
end
theorem ref_lcC {K : PySem.W.Frag} {C : CI} {wi : TI} {g : TG} {tt : TT} {te : TE} {vs : List Nat} {zi : ZI} {zg : ZG} {zt : ZT} {ze : ZE} (hi : RefI K C wi zi) (hg : RefG K C g zg) (ho : Own g vs) (ht : RefT K C tt zt) (he : RefE K C te ze) :
    RefE K C (tLc wi g tt te vs) (zLcC zi zg zt ze vs) := fun S A σ H Γ Δ P Q hs hc hz k => hi S A σ H Γ Δ _ _ hs hc hz fun J n G Y items A1 H1 Δ1 e1 c1 p hn w hG hY q hq => by
  have s1 := hs.ext e1
  -- the list at q is set aside
  have mo0 : Mo S A1 H1 (q :: S) A1 (upd H1 q (.lst [])) := ⟨⟨[], by simp, by simp⟩, fun b hb => by
    rcases List.mem_cons.mp hb with rfl | hb
    · exact .inr hq
    · exact .inl hb, fun a o _ _ h => by rw [upd_ne (ne_of_none h hq)]; exact h⟩
  have cells0 : Cells K C (q :: S) A1 (upd H1 q (.lst [])) Δ1 := by
    refine ⟨c1.len, c1.nd, fun a ha hb => ?_, fun a ha h => ?_, fun n a o h1 h2 => (c1.at_ n a o h1 h2).mono mo0 fun u h => by rw [upd_ne (ne_of_none h hq)]; exact h⟩
    · rcases List.mem_cons.mp hb with rfl | hb
      · exact c1.fresh hq ha
      · exact c1.dj a ha hb
    · rcases List.mem_cons.mp ha with rfl | ha
      · rw [upd_same] at h; cases h
      · exact c1.as a ha ((Ext.new (A := A1) hq).trk a h)
  refine lc_it w (fun i H2 => ∃ A2 Δ2 acc accV, Ext A1 H1 A2 H2 ∧ Mo S A1 H1 (q :: S) A2 H2 ∧ Cells K C (q :: S) A2 H2 Δ2 ∧ H2 q = some (.lst accV) ∧ RepL K C (q :: S) A2 H2 accV acc ∧ compZ zg zt ze (wipeZ Γ vs) (asCell P) (items.drop i) acc Δ2)
    ⟨A1, Δ1, [], [], Ext.new hq, mo0, cells0, upd_same, .nil, p⟩ (fun i H2 _ ⟨A2, Δ2, acc, accV, _, m, _⟩ => hG _ A2 H2 m) ?_ ?_
  · rintro i x H2 H3 hi2 ⟨A2, Δ2, acc, accV, e2, m2, c2, hqv, hacc, hp⟩ y
    obtain ⟨d, q1, q2, q3⟩ := hY _ A2 H2 Δ2 i x H3 hi2 m2 c2 y
    have hd : items.drop i = d :: items.drop (i + 1) := by
      obtain ⟨hl, q⟩ := List.getElem?_eq_some_iff.mp q1
      rw [← q]
      exact List.drop_eq_getElem_cons hl
    rw [hd] at hp
    have e3 : Ext A2 H2 A2 H3 := Ext.kept q2
    have s3 : Slots K C (q :: S) A2 H3 (wipe σ vs) (wipeZ Γ vs) := ((s1.mono m2).ext e3).wipe vs
    have fin : g x (wipe σ vs) H3 fun σ2 H4 => wipe σ2 vs = wipe (wipe σ vs) vs ∧ tt σ2 H4 fun b H5 =>
        if b = true then te σ2 H5 fun y H6 => ∃ acc, H6 q = some (.lst acc) ∧ acc.length < sizeLine ∧ ∃ A2 Δ2 acc' accV, Ext A1 H1 A2 (upd H6 q (.lst (acc ++ [y]))) ∧ Mo S A1 H1 (q :: S) A2 (upd H6 q (.lst (acc ++ [y]))) ∧ Cells K C (q :: S) A2 (upd H6 q (.lst (acc ++ [y]))) Δ2 ∧
          (upd H6 q (.lst (acc ++ [y]))) q = some (.lst accV) ∧ RepL K C (q :: S) A2 (upd H6 q (.lst (acc ++ [y]))) accV acc' ∧ compZ zg zt ze (wipeZ Γ vs) (asCell P) (items.drop (i + 1)) acc' Δ2
        else ∃ A2 Δ2 acc accV, Ext A1 H1 A2 H5 ∧ Mo S A1 H1 (q :: S) A2 H5 ∧ Cells K C (q :: S) A2 H5 Δ2 ∧ H5 q = some (.lst accV) ∧ RepL K C (q :: S) A2 H5 accV acc ∧ compZ zg zt ze (wipeZ Γ vs) (asCell P) (items.drop (i + 1)) acc Δ2 := by
      refine ho _ _ _ _ (hg (q :: S) A2 (wipe σ vs) H3 (wipeZ Γ vs) Δ2 x d _ _ s3 (c2.kept q2) q3 hp fun σ4 A4 H4 Γ4 Δ4 e4 s4 c4 p4 => ?_)
      refine ht (q :: S) A4 σ4 H4 Γ4 Δ4 _ _ s4 c4 p4 fun b A5 H5 Δ5 e5 c5 p5 => ?_
      have e25 := (e3.trans e4).trans e5
      have e15 := e2.trans e25
      have hq2 : q ∉ A2 := fun h => c2.dj q h List.mem_cons_self
      have hq5 : H5 q = some (.lst accV) := e25.keep q _ hq2 hqv
      have m5 : Mo S A1 H1 (q :: S) A5 H5 := ⟨e15.pre, m2.sub, fun a o h1 _ h3 => e15.keep a o h1 h3⟩
      cases b with
      | false => exact iteF ⟨A5, Δ5, acc, accV, e15, m5, c5, hq5, hacc.ext e25, p5.2 rfl⟩
      | true =>
        refine iteT (he (q :: S) A5 σ4 H5 Γ4 Δ5 _ _ (s4.ext e5) c5 (p5.1 rfl) fun y dy A6 H6 Δ6 e6 c6 r6 p6 => ?_)
        have e16 := e15.trans e6
        have hq5' : q ∉ A5 := fun h => c5.dj q h List.mem_cons_self
        have hq6' : q ∉ A6 := fun h => c6.dj q h List.mem_cons_self
        have hq6 : H6 q = some (.lst accV) := e6.keep q _ hq5' hq5
        have hacc6 := (hacc.ext e25).ext e6
        have mo7 : Mo (q :: S) A6 H6 (q :: S) A6 (upd H6 q (.lst (accV ++ [y]))) := ⟨⟨[], by simp, by simp⟩, fun _ h => .inl h, fun a o _ h2 h3 => by
          rw [upd_ne (fun h => h2 (by rw [h]; exact List.mem_cons_self))]; exact h3⟩
        have nq : ∀ a o, H1 a = some o → a ≠ q := fun a o h => ne_of_none h hq
        refine ⟨accV, hq6, lt_line (by rw [hacc6.length]; exact p6.1), A6, Δ6, acc ++ [dy], accV ++ [y], ?_, ?_, ?_, upd_same, ?_, p6.2⟩
        · exact ⟨e16.pre, fun a o h1 h2 => by rw [upd_ne (nq a o h2)]; exact e16.keep a o h1 h2, fun a h => by
            by_cases hb : a = q
            · subst hb; exact hq
            · rw [upd_ne hb] at h; exact e16.trk a h⟩
        · exact ⟨e16.pre, m2.sub, fun a o h1 _ h3 => by rw [upd_ne (nq a o h3)]; exact e16.keep a o h1 h3⟩
        · refine ⟨c6.len, c6.nd, c6.dj, fun a ha h => ?_, fun n a o h1 h2 => (c6.at_ n a o h1 h2).mono mo7 fun u h => ?_⟩
          · by_cases hb : a = q
            · subst hb; rw [upd_same] at h; cases h
            · rw [upd_ne hb] at h; exact c6.as a ha h
          · rw [upd_ne (fun hb => hq6' (by rw [← hb]; exact List.mem_of_getElem? h1))]; exact h
        · exact (RepL.append hacc6 (.cons r6 .nil)).mono mo7 _
    rw [wipe_wipe] at fin
    exact fin
  · rintro H2 ⟨A2, Δ2, acc, accV, e2, m2, c2, hqv, hacc, hp⟩
    rw [hn, List.drop_length] at hp
    obtain ⟨es, e9, hp⟩ := hp
    cases e9
    have hq2 : q ∉ A2 := fun h => c2.dj q h List.mem_cons_self
    exact k _ _ (A2 ++ [q]) H2 (Δ2 ++ [.lst acc]) (Ext.cellIn (e1.trans e2) (e1.trk q hq) hq2) (Cells.unset (o := .lst acc) c2 (c1.aside hq) ⟨accV, hqv, hacc.unaside hq2 (c1.aside hq)⟩) (.cell (by rw [← c2.len, List.getElem?_append_right (Nat.le_refl _), Nat.sub_self] <;> rfl)) hp
section
variable {C : CI} {X : Cx}
theorem ez_lcC {elt tg iter : Expr} {ifs : List Expr} {scope : Scope} {own : List (Str × Nat)} {pos : Pos} {zi : ZI} {g : TG} {zg : ZG} {zt : ZT} {ze : ZE} (hN : X.N.Nodup) (hi : IZ C X tg iter zi) (ok : BlkOk X.N X.env.scope scope own) (ho : Own g (own.map (·.2))) (hb : BlkZ C X scope tg ifs elt g zg zt ze)
    (hc : X.calm = true := by rfl) (hs : ∀ x, foldedSetIterable iter X.env x = pure x := by intro _; rfl) : EZ C X (.ListComp elt [⟨tg, iter, ifs, 0⟩] scope pos) (zLcC zi zg zt ze (own.map (·.2))) := by
  obtain ⟨wi, i1, i2⟩ := hi.ex; obtain ⟨tt, te, b1, b2, b3, b4⟩ := hb.ex
  exact ⟨_, pe_lc hc hN i1 ok (fun s H Ca cl fp => (b1 s H Ca cl fp).1) (fun s H Ca cl fp => (b1 s H Ca cl fp).2.1) (fun s H Ca cl fp => (b1 s H Ca cl fp).2.2) hs, ref_lcC i2 b2 ho b3 b4⟩
end
end Z

/-! Z13: an expression or a test that is lent the cells' contents: what it makes is forgotten, but for a value of tuples and what stands nowhere. -/
namespace Z
open PySem PySem.Spec PyProof.Rows L2
mutual
def bareT : D → Bool
  | .non | .bl _ | .int _ | .str _ => true
  | .tup ds => bareTs ds
  | _ => false
def bareTs : List D → Bool
  | [] => true
  | d :: ds => bareT d && bareTs ds
end
section
variable {K : PySem.W.Frag} {C : CI} {S A : List Addr} {H : Hp} {Δ : Store}
theorem Cells.no_tup (c : Cells K C S A H Δ) {a : Addr} {xs : List V} (h : H a = some (.tup xs)) : a ∉ A := fun hm => by
  obtain ⟨n, hn⟩ := List.mem_iff_getElem?.mp hm
  have hl : n < Δ.length := by rw [← c.len]; exact (List.getElem?_eq_some_iff.mp hn).1
  have q := c.at_ n a _ hn (List.getElem?_eq_getElem hl)
  cases e : Δ[n] with
  | lst ds => rw [e] at q; obtain ⟨xs, g, _⟩ := q; rw [h] at g; cases g
  | ins k fs => rw [e] at q; obtain ⟨dx, xs, g, _⟩ := q; rw [h] at g; cases g
  | dct ks ds => rw [e] at q; obtain ⟨xs, g, _⟩ := q; rw [h] at g; cases g
mutual
theorem Rep.of_bareT {A' : List Addr} (c : Cells K C S A H Δ) : ∀ (d : D) {v : V}, bareT d = true → Rep K C S A' H v d → Rep K C S A H v d
  | .non, _, _, h => by cases h; exact .non
  | .bl b, _, _, h => by cases h; exact .bl b
  | .int i, _, _, h => by cases h; exact .int i
  | .str x, _, _, h => by cases h; exact .str x
  | .tup ds, _, hb, h => by cases h with | tup h1 hA hS r => exact .tup h1 (c.no_tup h1) hS (RepL.of_bareT c ds hb r)
  | .ty _, _, hb, _ => by cases hb
  | .cls _, _, hb, _ => by cases hb
  | .lst _, _, hb, _ => by cases hb
  | .ins _ _, _, hb, _ => by cases hb
  | .dct _ _, _, hb, _ => by cases hb
  | .cell _, _, hb, _ => by cases hb
  | .scr _, _, hb, _ => by cases hb
theorem RepL.of_bareT {A' : List Addr} (c : Cells K C S A H Δ) : ∀ (ds : List D) {vs : List V}, bareTs ds = true → RepL K C S A' H vs ds → RepL K C S A H vs ds
  | [], _, _, h => by cases h; exact .nil
  | d :: ds, _, hb, h => by
    have hb' : (bareT d && bareTs ds) = true := hb
    rw [Bool.and_eq_true] at hb'
    cases h with
    | cons h r => exact .cons (Rep.of_bareT c d hb'.1 h) (RepL.of_bareT c ds hb'.2 r)
end
/-- slots that are lent: a cell's content, where no other cell stands in it -/
def lent1 (Δ : Store) : Option D → Option D
  | some d => if Z.below 0 (Z.thaw Δ d) = true then some (Z.thaw Δ d) else none
  | none => none
theorem Slots.lent {σ : L2.St} {Γ : Env} (c : Cells K C S A H Δ) (s : Slots K C S A H σ Γ) : Slots K C S [] H σ (Γ.map (lent1 Δ)) := by
  refine ⟨by rw [List.length_map]; exact s.len, fun i d h => ?_⟩
  rw [List.getElem?_map] at h
  cases e : Γ[i]? with
  | none => rw [e] at h; cases h
  | some o =>
    cases o with
    | none => rw [e] at h; cases h
    | some d0 =>
      rw [e] at h
      have h : lent1 Δ (some d0) = some d := by simpa using h
      unfold lent1 at h
      by_cases hb : Z.below 0 (Z.thaw Δ d0) = true
      · simp only [hb, if_true] at h
        cases h
        obtain ⟨v, h1, h2⟩ := s.at_ i d0 e
        exact ⟨v, h1, Rep.thw c d0 hb h2⟩
      · simp only [if_neg hb] at h; cases h
end
def zLend (z : ZE) : ZE := fun Γ Δ P => z (Γ.map (lent1 Δ)) [] fun d _ => bareT d = true ∧ P d Δ
def zLendT (z : ZT) : ZT := fun Γ Δ P => z (Γ.map (lent1 Δ)) [] fun b _ => P b Δ
section
variable {K : PySem.W.Frag} {C : CI} {X : Cx} {e : Expr} {ze : ZE} {zt : ZT}
theorem ref_lend {te : TE} (h : RefE K C te ze) : RefE K C te (zLend ze) := fun S A σ H Γ Δ P Q hs hc hz k =>
  h S [] σ H _ [] _ Q (Slots.lent hc hs) ⟨rfl, .nil, (fun a ha => nomatch ha), hc.as, (fun n a o h => nomatch h)⟩ hz fun v d A' H' Δ' e2 c2 r2 p2 => by
    have kp : ∀ a o, H a = some o → H' a = some o := fun a o h => e2.keep a o (fun q => nomatch q) h
    exact k v d A H' Δ (Ext.kept kp) (hc.kept kp) (Rep.of_bareT (hc.kept kp) d p2.1 r2) p2.2
theorem ref_lendT {tt : TT} (h : RefT K C tt zt) : RefT K C tt (zLendT zt) := fun S A σ H Γ Δ P Q hs hc hz k =>
  h S [] σ H _ [] _ Q (Slots.lent hc hs) ⟨rfl, .nil, (fun a ha => nomatch ha), hc.as, (fun n a o h => nomatch h)⟩ hz fun b A' H' Δ' e2 c2 p2 => by
    have kp : ∀ a o, H a = some o → H' a = some o := fun a o h => e2.keep a o (fun q => nomatch q) h
    exact k b A H' Δ (Ext.kept kp) (hc.kept kp) p2
theorem ez_lend (h : EZ C X e ze) : EZ C X e (zLend ze) := by
  obtain ⟨t, h1, h2⟩ := h.ex
  exact ⟨t, h1, ref_lend h2⟩
theorem tz_lend (h : TZ C X e zt) : TZ C X e (zLendT zt) := by
  obtain ⟨t, h1, h2⟩ := h.ex
  exact ⟨t, h1, ref_lendT h2⟩
theorem frD_bare {p q : Int} : bareT (.tup [.int p, .int q]) = true := rfl
end
/-! ### sorted of a list of ints; a list given to names -/
section
variable {C : CI} {X : Cx} {pos : Pos}
def zSortI : ZRC := fun ds Δ P => ∃ (d : D) (ns : List Int), ds = [d] ∧ lstD Δ d = some (ns.map D.int) ∧ ∀ ys : List Int, ys.Perm ns → ys.Pairwise (· ≤ ·) → P (.lst (ys.map D.int)) Δ
theorem cz_sortI : CallZ C X (.builtin "sorted") zSortI := ⟨_, cr_sortedI, fun S A H Δ xs ds P Q hc r hz k => by
  obtain ⟨d, ns, rfl, hd, q⟩ := hz
  obtain ⟨v, rfl, rv⟩ := one_rep r
  obtain ⟨pa, ys, rfl, hq, rr⟩ := Rep.lst_ hc rv hd
  obtain rfl := repL_int rr
  refine ⟨pa, ns, rfl, SqL.of hq, fun zs p h1 h2 hp => ?_⟩
  exact k _ _ A _ Δ (Ext.new hp) (hc.kept fun a o h => by rw [upd_ne (ne_of_none h hp)]; exact h) (.lst upd_same (hc.fresh hp) (hc.aside hp) (repL_ints zs)) (q zs h1 h2)⟩
def zgLst (n : Nat) (gs : ZGs) : ZG := fun d Γ Δ P => ∃ ds, d = .lst ds ∧ ds.length = n ∧ gs ds Γ Δ P
theorem gz_lst {es : List Expr} {k : Nat} {gs : TGs} {zs : ZGs} {n : Nat} (h : GsZ C X es gs zs) (hc : X.calm = true := by rfl) (hn : (assignEach es X.env).length = n := by rfl) (hst : (assignEach es X.env).findIdx? (·.1) = none := by rfl) : GZ C X (.Tuple es k pos) (gLst X.K n gs) (zgLst n zs) :=
  ⟨pg_lst hc h.pg hn hst, fun S A σ H Γ Δ v d P Q hs hc r hz k => by
    obtain ⟨ds, rfl, hl, p⟩ := hz
    cases r with
    | lst h1 h2 h3 r => exact ⟨_, _, rfl, SqL.of h1, by rw [r.length]; exact hl, h.ref S A σ H Γ Δ _ ds P Q hs hc r p k⟩⟩
end
end Z

/-! Z14: enumerate over a tuple. -/
namespace Z
open PySem PySem.Spec PyProof.Rows L2
open Sem (wp)
open AutoSeq1 (wpAny_loadPart')
/-- the heap with the two records that stand for enumerate over the tuple at t -/
def enT1 (h : Heap) (t : Addr) : Heap := h.push { cls := .type "tuple_iterator", data := .fields #[.ref t, .int 0 0] }
def enT2 (h : Heap) (t : Addr) : Heap := (enT1 h t).push { cls := .type "enumerate", data := .fields #[.none, .bool false, .ref h.objs.size, rawInt 0, .none, .none] }
theorem newEnT (t : Addr) (us : Array Value) (m : Nat) (dd : Option Addr) (sl : Array (Option Value)) :
    Meets (Builtin.«enumerate.__new__» ⟨[.type "enumerate", .ref t], []⟩) fun _ R z =>
      z.heap.get? t = some { cls := .type "tuple", dict := dd, data := .seq us m, slots := sl } ∧ R (.ok (.ret (.ref (enT1 z.heap t).objs.size))) { z with heap := enT2 z.heap t } :=
  .of_wp fun prog w A R z hz => by
    obtain ⟨h1, g1, d1, t1, o1⟩ := z
    obtain ⟨ht, hR⟩ := hz
    have su := sub_enumerate
    have isT : Heap.IsTuple (Shared.heap ⟨h1, g1, d1, t1, o1⟩) t us := ⟨_, ht, rfl, m, rfl⟩
    wp_walk using wpAny_loadPart' ht
    refine wpAny_stack_any fun _ => wpAny_pure ?_
    split <;> first
      | (rename_i kl _ _ _ _ _; cases (kl == Value.type "enumerate") <;> (wp_walk using wpAny_loadPart' ht, wpAny_pyIter_tuple isT; exact ⟨_, rfl, hR⟩))
      | (wp_walk using wpAny_loadPart' ht, wpAny_pyIter_tuple isT; exact ⟨_, rfl, hR⟩)
theorem enT_get (h : Heap) (t : Addr) : IsEnum (enT2 h t) (h.objs.size + 1) h.objs.size 0 .none ∧ (enT2 h t).IsTupleIter h.objs.size t 0 ∧ ∀ b o, h.get? b = some o → (enT2 h t).get? b = some o := by
  have z1 : (enT1 h t).objs.size = h.objs.size + 1 := Heap.size_push ..
  refine ⟨?_, ⟨_, Heap.get?_push_of_some _ (Heap.get?_push_size _ rfl), rfl, rfl⟩, fun b o e => Heap.get?_push_of_some _ (Heap.get?_push_of_some _ e)⟩
  have := Heap.get?_push_size (enT1 h t) (o := { cls := .type "enumerate", data := .fields #[.none, .bool false, .ref h.objs.size, rawInt 0, .none, .none] }) rfl
  rw [z1] at this
  exact this
section
variable {prog : Program} {w : World} {A : Around} {E : Value → Shared → Prop} {z : Shared}
theorem callEnT {t : Addr} {us : Array Value} {Q : Value → Shared → Prop} (ht : z.heap.IsTuple t us) (k : Q (.ref (z.heap.objs.size + 1)) { z with heap := enT2 z.heap t }) : wpAny (model prog w) A (call (.type "enumerate") [.ref t]) Q E z := by
  obtain ⟨⟨c, dd, dt, sl⟩, hl, hc, m, hd⟩ := ht
  obtain rfl : c = .type "tuple" := hc
  obtain rfl : dt = .seq us m := hd
  have z1 : (enT1 z.heap t).objs.size = z.heap.objs.size + 1 := Heap.size_push ..
  refine callType_new F.called_enumerate (by decide) (F.typeCall_enumerate_1 _) (F.newCall_enumerate_1 _) (fun ob => F.args_object_init_2 ob _) F.entry_enumerate_new (newEnT t us m dd sl) ⟨hl, ?_⟩
  show _ ∧ _
  rw [z1]
  exact ⟨⟨_, (enT_get z.heap t).1, rfl⟩, k⟩
end
/-- the pairs of the tuple at a -/
def IteT (K : PySem.W.Frag) (a : Addr) : It :=
  ⟨fun i H => ∃ us : List V, ∃ x : V, SqT K H a us ∧ us[i]? = some x,
   fun i H v H' => ∃ T x, v = .ref T ∧ H T = none ∧ H' = upd H T (.tup [.int (i : Nat), x]) ∧ ∀ us, SqT K H a us → us[i]? = some x,
   fun i H => ∃ us : List V, SqT K H a us ∧ i = us.length⟩
theorem turnEnT {P : Program} {w : World} {K : PySem.W.Frag} {elts : List Expr} {kk : Nat} {tpos : Pos} (a e it : Addr) :
    Turn P w K (.Tuple elts kk tpos) (IteT K a) [e, it] e (fun i h => (∃ u, IsEnum h e it ((i : Nat) : Int) u) ∧ h.IsTupleIter it a i ∧ e ≠ it ∧ a ≠ it ∧ e ≠ a) where
  mem := List.mem_cons_self
  obj := fun i h ⟨⟨u, he⟩, ⟨o, ho, _, hd⟩, _⟩ b hb => by
    rcases List.mem_cons.mp hb with z | z
    · rw [z]
      exact ⟨_, he, fun _ q => Data.noConfusion q⟩
    · rw [List.mem_singleton] at z
      exact ⟨o, by rw [z]; exact ho, fun v q => by rw [hd] at q; cases q⟩
  keep := fun i h h' ⟨⟨u, he⟩, hi, hne⟩ k => ⟨⟨u, k e List.mem_cons_self _ he⟩, hi.at fun o q => k it (List.mem_cons_of_mem _ List.mem_cons_self) o q, hne⟩
  item := by
    intro X hP hw hK hc i pins s σ H E I hf st hg
    subst hP hw hK
    obtain ⟨⟨u0, he⟩, hit, hne, hai, hea⟩ := st
    obtain ⟨us, x, hq, hx⟩ := hg
    obtain ⟨its, rv, pt, _⟩ := I.tuple hq
    obtain ⟨u, hu, ru⟩ := rv.get hx
    have le : e < s.heap.objs.size := Heap.lt_size he
    have li : it < s.heap.objs.size := Heap.lt_size hit.choose_spec.1
    have ex : its.toArray[i]? = some u := by simpa using hu
    have il : i < its.toArray.size := by
      obtain ⟨q, _⟩ := Array.getElem?_eq_some_iff.mp ex
      exact q
    have D := Draws.tuple (prog := X.prog) (w := X.w) (A := X.A.in1) (show X.A.in1.handled = none from I.ok.hd hc) it a hai its.toArray
    refine wpAny_pyNext_enum_itemD D he ⟨hit, pt⟩ il hne (by simp [hne, hea]) fun y h1 tk hy out st1 gT _ kp => ?_
    obtain rfl : y = u := by
      have hy : its.toArray[i]? = some y := hy
      rw [ex] at hy
      exact (Option.some.inj hy).symm
    refine ⟨_, rfl, wpAny_letOwnedTupleGo_enum (s := { s with heap := h1, toks := tk + 1 }) out fun h2 he2 sb => ?_⟩
    have gT2 : h2.get? s.heap.objs.size = some { cls := .type "tuple", data := .seq #[.int i tk, y] } := by rw [sb.2 _ (Nat.ne_of_gt le)]; exact gT
    have pr : ObjOk X.prog X.w (upd H s.heap.objs.size (.tup [.int (i : Nat), x])) h2 s.heap.objs.size (.tup [.int (i : Nat), x]) := by
      refine ⟨?_, [.int i tk, y], .cons ⟨_, rfl⟩ (.cons ru .nil), _, gT2, rfl, _, rfl⟩
      show 2 ≤ sizeLine
      decide
    have J : Inv X pins σ (upd H s.heap.objs.size (.tup [.int (i : Nat), x])) { s with heap := h2, toks := tk + 1 } := by
      refine I.turnedNew (ch := [e, it]) (fun b ob hb q => ?_) hf (Nat.le_refl _) pr
      have nb : b ≠ e ∧ b ≠ it := ⟨fun y => hb (by simp [y]), fun y => hb (by simp [y])⟩
      rw [sb.2 b nb.1]
      exact kp b ob nb.1 nb.2 q
    refine ⟨.ref s.heap.objs.size, _, J, rfl, ⟨_, x, rfl, I.hok.fresh (Nat.le_refl _), rfl, fun vs hv => ?_⟩, ⟨⟨y, ?_⟩, ?_, hne, hai, hea⟩, fun b hb => ?_⟩
    · rw [I.tuple_inj hv hq]
      exact hx
    · rw [show ((i + 1 : Nat) : Int) = (i : Int) + 1 by omega]
      exact he2
    · exact st1.1.at fun o q => by rw [sb.2 it (Ne.symm hne)]; exact q
    · have lb : b < s.heap.objs.size := by
        rcases List.mem_cons.mp hb with z | z
        · rw [z]; exact le
        · rw [List.mem_singleton.mp z]; exact li
      rw [upd_ne (Nat.ne_of_lt lb)]
      exact (hf b hb).1
  done := by
    intro X hP hw hK hc i pins s σ H E I hf st hg
    subst hP hw hK
    obtain ⟨⟨u0, he⟩, hit, hne, hai, hea⟩ := st
    obtain ⟨us, hq, hx⟩ := hg
    obtain ⟨its, rv, pt, _⟩ := I.tuple hq
    obtain ⟨f0, f1, f2, f3, f4, f5⟩ := hf it (by simp)
    obtain rfl : i = its.toArray.size := by
      rw [hx, rv.length]
      simp
    have D := Draws.tuple (prog := X.prog) (w := X.w) (A := X.A.in1) (show X.A.in1.handled = none from I.ok.hd hc) it a hai its.toArray
    refine wpAny_pyNext_enum_endD D he ⟨hit, pt⟩ fun h1 eb => ⟨rfl, ?_⟩
    exact I.turned (t' := s.toks) (fun b o nb q => eb b o nb q) f0 f1 f3 f4 f5
  self := fun A i s Q E st h => wpAny_pyIter_enum st.1.choose_spec h
def iEnT (K : PySem.W.Frag) (ta : TA) : TI := fun σ H R => ta σ H fun vs H1 => ∃ (a : Addr) (us : List V), vs = [.ref a] ∧ SqT K H1 a us ∧ R (IteT K a) H1
theorem piEnT {X : Cx} {e : Expr} {ta : TA} {p pos tpos : Pos} {elts : List Expr} {kk : Nat} (hg : Gl X "enumerate") (hm : X.mg "enumerate" = none) (ha : PA X [e] ta) (hs : starEach [e] X.env = [(false, eval e X.env)] := by rfl) : PI X (.Tuple elts kk tpos) (.Call (.Name "enumerate" p) [e] [] pos) (iEnT X.K ta) := by
  refine ⟨fun pins z σ H R I h => Call_ (ld_blt I hg hm boot_enumerate (PyProof.Rows.callWith_type1 (thn (ha.run pos pins z σ H _ I h) fun us z1 ⟨vs, H1, J, r1, q1⟩ => ?_) hs rfl))⟩
  obtain ⟨a, xs, rfl, hq, q⟩ := q1
  cases r1 with
  | cons r rr =>
    cases rr
    cases r
    obtain ⟨its, rv, pt, _⟩ := J.tuple hq
    obtain ⟨g1, g2, g3⟩ := enT_get z1.heap a
    have la : a < z1.heap.objs.size := Heap.lt_size pt.choose_spec.1
    refine callEnT pt (wpAny_pyIter_enum g1 ?_)
    have J2 : Inv X pins σ H1 { z1 with heap := enT2 z1.heap a } := J.kept (t' := z1.toks) g3
    refine ⟨z1.heap.objs.size + 1, [z1.heap.objs.size + 1, z1.heap.objs.size], _, _, H1, rfl, J2, turnEnT a (z1.heap.objs.size + 1) z1.heap.objs.size, ⟨⟨.none, g1⟩, g2, Nat.succ_ne_self _, Nat.ne_of_lt la, Nat.ne_of_gt (Nat.lt_succ_of_lt la)⟩, fun b hb => ?_, q⟩
    have hle : z1.heap.objs.size ≤ b := by
      rcases List.mem_cons.mp hb with y | y
      · rw [y]
        exact Nat.le_add_right _ _
      · rw [List.mem_singleton.mp y]
        exact Nat.le_refl _
    exact J.fpOk hle (J.hok.fresh hle)
theorem walkEnT {K : PySem.W.Frag} {a : Addr} {us : List V} : Walk (IteT K a) us.length (fun H => SqT K H a us) (YPair (fun i => some (.int (i : Nat))) (fun i => us[i]?)) :=
  ⟨fun i _ hi q => ⟨us, us[i], q, by simp [hi]⟩, fun _ q => ⟨us, q, rfl⟩, fun i H v H' _ q ⟨T, x, h1, h2, h3, h4⟩ => ⟨T, .int (i : Nat), x, h1, h2, h3, rfl, h4 us q⟩⟩
section
variable {C : CI} {X : Cx} {za : ZA} {p pos : Pos}
def ziEnumT (za : ZA) : ZI := fun Γ Δ P => za Γ Δ fun ds Δ1 => ∃ xs, ds = [.tup xs] ∧ P (enumD xs) Δ1
theorem iz_enumT {e : Expr} {tpos : Pos} {elts : List Expr} {kk : Nat} (ha : AZ C X [e] za) (hm : X.mg "enumerate" = none) (hg : Gl X "enumerate" := by rfl) (hs : starEach [e] X.env = [(false, eval e X.env)] := by rfl) : IZ C X (.Tuple elts kk tpos) (.Call (.Name "enumerate" p) [e] [] pos) (ziEnumT za) := by
  obtain ⟨t, a1, a2⟩ := ha.ex
  refine ⟨_, piEnT hg hm a1 hs, fun S A σ H Γ Δ P R hs hc hz k => a2 S A σ H Γ Δ _ _ hs hc hz fun vs ds A1 H1 Δ1 e1 c1 r1 q => ?_⟩
  obtain ⟨xs, rfl, q⟩ := q
  obtain ⟨v, rfl, rv⟩ := one_rep r1
  cases rv with
  | tup g1 g2 g3 g4 =>
    rename_i a us
    refine ⟨a, us, rfl, SqT.of g1, ?_⟩
    refine k (IteT X.K a) us.length _ _ _ A1 H1 Δ1 e1 c1 q (by unfold enumD; rw [List.length_map, List.length_zipIdx, g4.length]) walkEnT (fun S2 A2 H2 m => SqT.of (m.keep _ _ g2 g3 g1)) fun S2 A2 H2 Δ2 i x H3 hi m c2 y => ?_
    obtain ⟨T, y1, y2, rfl, nT, rfl, f1, f2⟩ := y
    cases f1
    obtain ⟨d2, q3, q4⟩ := (RepL.mono m _ g4).getV f2
    refine ⟨.tup [.int (i : Nat), d2], ?_, fun b o h => by rw [upd_ne (ne_of_none h nT)]; exact h, .tup upd_same (c2.fresh nT) (c2.aside nT) (.cons (.int _) (.cons (q4.ext (Ext.new nT)) .nil))⟩
    unfold enumD
    rw [List.getElem?_map, List.getElem?_zipIdx, q3]
    simp
end
end Z

/-! Z15: sorted(set(..)) of a list of ints. -/
namespace Z
open PySem PySem.Spec PyProof.Rows L2
/-- the set that is made first, and the heap with it -/
def emS (w : World) : Obj := { cls := .type "set", dict := none, data := .set #[] 0 (.fresh 0 0 (!w.params.followText "set-order")) }
def emH (w : World) (h : Heap) : Heap := h.push (emS w)
section
variable {P : Program} {w : World} {A : Around} {E : Value → Shared → Prop} {s : Shared}
theorem setOfL {l : Addr} {us : Array Value} (ns : List Int) {Q : Value → Shared → Prop} (hh : A.handled = none) (hl : s.heap.IsList l us) (iu : IntsAre us.toList ns) (few : ns.length + 1 < scanBound)
    (k : ∀ (h' : Heap) (t c : Nat), SetR w h' s.heap.objs.size (fun j => decide (j ∈ ns)) c → c ≤ ns.length → (∀ b o, s.heap.get? b = some o → h'.get? b = some o) → Q (.ref s.heap.objs.size) { s with heap := h', toks := t }) : wpAny (model P w) A (call (.type "set") [.ref l]) Q E s := by
  have usz : us.size = ns.length := by rw [← IntsAre.length iu, Array.length_toList]
  obtain ⟨cc, tt, mr⟩ := F.called_set.mro
  have md := F.called_set.made
  have sb := F.called_set.sub
  refine wpAny_call (codeAny_of_tree (show wpAny _ _ (callAny (.type "set") _) _ _ _ from ?_))
  refine wpAny_pure ⟨Code.quiet_builtin _ (by decide +kernel), codeAny_builtin F.entry_type_call ?_⟩
  rw [Around.under_plain (weight_type_call_type "set" [.ref l] []) rfl]
  have y1 := F.called_set.notType
  have y2 := F.called_set.canCreate
  have y3 := F.typeCall_set_1 (.ref l)
  repeat (any_goals first | assumption | wp_step)
  refine codeAny_mono (code_set_led1 (.ref l) (E := E) (Q₁ := fun ob z => ob = .ref s.heap.objs.size ∧ z = { s with heap := emH w s.heap }) ⟨rfl, rfl⟩) fun r z hr => ?_
  rcases r with e | fl
  · exact hr
  cases fl with
  | ret ob =>
    obtain ⟨rfl, rfl⟩ := hr
    have gS : (emH w s.heap).get? s.heap.objs.size = some (emS w) := Heap.get?_push_size _ rfl
    have tS : Shared.TypeIs { s with heap := emH w s.heap } (.ref s.heap.objs.size) "set" := ⟨_, gS, rfl⟩
    have y4 := F.called_set.init.lookup
    have y5 := F.called_set.init.bind (.ref s.heap.objs.size)
    repeat (any_goals first | assumption | wp_step)
    refine codeAny_mono (codeAny_call_builtin (R := wants (fun r z => r = .none ∧ ∃ h' t c, z = { s with heap := h', toks := t } ∧ SetR w h' s.heap.objs.size (fun j => decide (j ∈ ns)) c ∧ c ≤ ns.length ∧ ∀ b o, s.heap.get? b = some o → h'.get? b = some o) E) F.called_set.init.plain F.entry_set_init (check_set_init_1 tS ?_)) fun r2 z2 hr2 => ?_
    · obtain ⟨⟨kl, dd, dt, sl⟩, gl, hkl, m, hd⟩ := hl
      obtain rfl : kl = .type "list" := hkl
      obtain rfl : dt = .seq us m := hd
      have gl2 : (emH w s.heap).get? l = some { cls := .type "list", dict := dd, data := .seq us m, slots := sl } := Heap.get?_push_of_some _ gl
      have n1 := F.sub_list_set
      have n2 := F.sub_list_frozenset
      have n3 : (Value.type "list" == Value.type "dict") = false := by decide
      have isL : (emH w s.heap).IsList l us := ⟨_, gl2, rfl, m, rfl⟩
      unfold Builtin.«set.__init__» noKeywords Builtin.Frozenset.updateFrom
      generalize hp : pyIter = pI
      wp_walk
      subst hp
      refine wpAny_pyIter_list isL (wpAny_bind (wpAny_runValue ?_))
      have ll : l < s.heap.objs.size := Heap.lt_size gl
      have h3 : A.in1.in1.in1.handled = none := hh
      have z1 : (emH w s.heap).objs.size = s.heap.objs.size + 1 := Heap.size_push ..
      have nI : l ≠ (emH w s.heap).objs.size := by
        rw [z1]
        exact Nat.ne_of_lt (Nat.lt_succ_of_lt ll)
      have nf : s.heap.objs.size ∉ [(emH w s.heap).objs.size, l] := by
        rw [z1]
        intro y
        rcases List.mem_cons.mp y with y | y
        · exact Nat.ne_of_lt (Nat.lt_succ_self _) y
        · exact Nat.ne_of_gt ll (List.mem_singleton.mp y)
      have vs : ∀ (i : Nat) (v : Value), us[i]? = some v → ∃ j t, ns[i]? = some j ∧ v = .int j t := fun i v hv => by
        have hi : i < ns.length := by
          rw [← usz]
          exact (Array.getElem?_eq_some_iff.mp hv).1
        obtain ⟨t, e⟩ := PyProof.Rows.IntsAre.int_at iu i v (by rw [Array.getElem?_toList]; exact hv)
        refine ⟨ns[i], t, List.getElem?_eq_getElem hi, e.trans ?_⟩
        rw [List.getD_eq_getElem?_getD, List.getElem?_eq_getElem hi] <;> rfl
      refine set_update_ints ((Walks.list h3 _ l nI us).toS) s.heap.objs.size nf ns usz few vs (us.size - 0) 0 _ (by omega) (Nat.zero_le _) ⟨⟨_, Heap.get?_push_size _ rfl, rfl, rfl⟩, isL.push _⟩ ?g0 ?g1
      case g0 => exact ⟨0, Nat.le_refl 0, setR_new_at (Heap.get?_push_of_some _ gS)⟩
      case g1 =>
        intro z c mv hc hS
        obtain ⟨h', g', d', t', o'⟩ := z
        obtain rfl : g' = s.gens := mv.gens
        obtain rfl : d' = s.drawn := mv.drawn
        obtain rfl : o' = s.os := mv.os
        rw [usz] at hc
        refine wpAny_pure (wpAny_pure ⟨rfl, h', t', c, rfl, hS, hc, fun b o e => ?_⟩)
        have lb : b < s.heap.objs.size := Heap.lt_size e
        refine mv.heap b o (fun y => ?_) (Heap.get?_push_of_some _ (Heap.get?_push_of_some _ e))
        rcases List.mem_cons.mp y with y | y
        · exact Nat.ne_of_lt lb y
        · have y := List.mem_singleton.mp y
          rw [show (emH w s.heap).objs.size = s.heap.objs.size + 1 from z1] at y
          exact Nat.ne_of_lt (Nat.lt_succ_of_lt lb) y
    · rcases r2 with e | fl2
      · exact hr2
      cases fl2 with
      | ret r =>
        obtain ⟨rfl, h', t, c, rfl, hS, hc, hk⟩ := hr2
        repeat (any_goals first | assumption | wp_step)
        exact k _ _ _ hS hc hk
      | _ => exact hr2.elim
  | _ => exact hr.elim
end
end Z

namespace Z
open PySem PySem.Spec PyProof.Rows L2
def rSetL (K : PySem.W.Frag) (w : World) : List V → Hp → VK → Prop := fun xs H Q => ∃ (l : Addr) (ns : List Int), xs = [.ref l] ∧ SqL K H l (ns.map V.int) ∧ ns.length + 1 < scanBound ∧ ∀ a c, H a = none → c ≤ ns.length → Q (.ref a) (upd H a (SetO w a (fun j => decide (j ∈ ns)) c))
theorem crSetL {X : Cx} (hc : X.calm = true) : CallR X (.type "set") (rSetL X.K X.w) := by
  rintro pins s σ H _ us Q I r ⟨l, ns, rfl, hl, few, q⟩
  rw [Vals.ref1 r]
  obtain ⟨its, rv, pl, _⟩ := I.list hl
  refine setOfL ns (I.ok.hd hc) pl.isList (ints_of_vals rv) few fun h' t c R lc kp => ?_
  exact ⟨.ref s.heap.objs.size, _, I.laid (t' := t) kp (Nat.le_refl _) (setO_new R), rfl, q _ c (I.hok.fresh (Nat.le_refl _)) lc⟩
section
variable {C : CI} {X : Cx} {z : ZE} {e : Expr} {p p2 pos pos2 : Pos}
def zSrtL (z : ZE) : ZE := fun Γ Δ P => z Γ Δ fun d Δ1 => ∃ ns : List Int, lstD Δ1 d = some (ns.map D.int) ∧ ns.length < 63 ∧ ∀ ms : List Int, ms.Pairwise (· < ·) → (∀ k, k ∈ ms ↔ k ∈ ns) → P (.lst (ms.map D.int)) Δ1
theorem ez_srtL (m1 : X.mg "sorted" = none) (m2 : X.mg "set" = none) (h : EZ C X e z) (hc : X.calm = true := by rfl) (g1 : Gl X "sorted" := by rfl) (g2 : Gl X "set" := by rfl)
    (st1 : starEach [e] X.env = (false, eval e X.env) :: starEach [] X.env := by rfl) (pl1 : (backTo pos2 (starEach [] X.env)).any (·.1) = false := by rfl)
    (st2 : starEach [.Call (.Name "set" p2) [e] [] pos2] X.env = (false, eval (.Call (.Name "set" p2) [e] [] pos2) X.env) :: starEach [] X.env := by rfl) (pl2 : (backTo pos (starEach [] X.env)).any (·.1) = false := by rfl) :
    EZ C X (.Call (.Name "sorted" p) [.Call (.Name "set" p2) [e] [] pos2] [] pos) (zSrtL z) := by
  obtain ⟨t, a1, a2⟩ := h.ex
  have q1 := pe_callTy (X := X) (pos := pos2) (p := p2) (crSetL hc) g2 m2 PyProof.Rows.boot_set (pa_cons a1 pa_nil st1) (by decide) (by decide) st1 pl1
  refine ⟨_, pe_callB (cr_sortedSet hc) g1 m1 (by decide +kernel) (pa_cons q1 pa_nil st2) (by decide) (by decide) st2 pl2, fun S A σ H Γ Δ P Q hs hc2 hz k => ?_⟩
  refine a2 S A σ H Γ Δ _ _ hs hc2 hz fun v d A1 H1 Δ1 e1 c1 r1 ⟨ns, hd, few, q⟩ => ?_
  obtain ⟨pa, ys, rfl, hq, rr⟩ := Rep.lst_ c1 r1 hd
  obtain rfl := repL_int rr
  refine ⟨pa, ns, rfl, SqL.of hq, by unfold scanBound; omega, fun a c ha lc => ?_⟩
  refine ⟨a, _, c, rfl, upd_same, by omega, fun ms b y1 y2 _ hb => ?_⟩
  have c2 : Cells X.K C S A1 (upd H1 a (SetO X.w a (fun j => decide (j ∈ ns)) c)) Δ1 := c1.kept fun x o y => by
    rw [upd_ne (ne_of_none y ha)]
    exact y
  have c3 := c2.kept (H' := upd (upd H1 a (SetO X.w a (fun j => decide (j ∈ ns)) c)) b (.lst (ms.map V.int))) fun x o y => by
    rw [upd_ne (ne_of_none y hb)]
    exact y
  exact k _ _ A1 _ Δ1 ((e1.trans (Ext.new ha)).trans (Ext.new hb)) c3 (.lst upd_same (c2.fresh hb) (c2.aside hb) (repL_ints ms)) (q ms y1 fun j => by rw [y2, decide_eq_true_iff])
end
end Z

/-! Z17: powers of great ints; min, max of a list; isinstance with several types; list(range(..)); a call that is lent the cells' contents and gives a new list; a def that is never called. -/
namespace Z
open PySem PySem.Spec PyProof.Rows L2
/-! ### powers -/
def CPowW (i j : Int) : Prop := 0 ≤ j ∧ ((i.natAbs.log2 + 1 : Nat) : Int) * j ≤ 2 ^ 27
section
variable {C : CI} {X : Cx}
theorem op_powW : OpR X (binaryOp .Pow) (rI CPowW fun i j => .int (i ^ j.toNat)) := opI fun i j _ _ _ _ _ hc q => by
  refine pow_int hc.1 ?_ q
  have b : Builtin.Int.intBits i ≤ i.natAbs.log2 + 1 := by
    unfold Builtin.Int.intBits
    split <;> omega
  have h := hc.2
  have h1 : ((Builtin.Int.intBits i : Nat) : Int) * j ≤ ((i.natAbs.log2 + 1 : Nat) : Int) * j := Int.mul_le_mul_of_nonneg_right (by omega) hc.1
  exact Int.le_trans h1 h
theorem oz_powW : OpZ C X (binaryOp .Pow) (zI CPowW fun i j => .int (i ^ j.toNat)) := ⟨_, op_powW, ref_I fun _ _ _ _ _ => .int _⟩
/-! ### min, max of a list of ints -/
def zMin1 : ZRC := fun ds Δ P => ∃ (d : D) (ns : List Int), ds = [d] ∧ lstD Δ d = some (ns.map D.int) ∧ ns ≠ [] ∧ ∀ m, m ∈ ns → (∀ y, y ∈ ns → m ≤ y) → P (.int m) Δ
def zMax1 : ZRC := fun ds Δ P => ∃ (d : D) (ns : List Int), ds = [d] ∧ lstD Δ d = some (ns.map D.int) ∧ ns ≠ [] ∧ ∀ m, m ∈ ns → (∀ y, y ∈ ns → y ≤ m) → P (.int m) Δ
theorem cz_min1 (hc : X.calm = true := by rfl) : CallZ C X (.builtin "min") zMin1 := ⟨_, cr_min hc, fun S A H Δ xs ds P Q hc r hz k => by
  obtain ⟨d, ns, rfl, hd, hne, q⟩ := hz
  obtain ⟨v, rfl, rv⟩ := one_rep r
  obtain ⟨pa, ys, rfl, hq, rr⟩ := Rep.lst_ hc rv hd
  obtain rfl := repL_int rr
  exact ⟨pa, ns, rfl, SqL.of hq, List.length_pos_iff.mpr hne, fun m h1 h2 => k _ _ A H Δ (Ext.refl _ _) hc (.int _) (q m h1 h2)⟩⟩
theorem cz_max1 (hc : X.calm = true := by rfl) : CallZ C X (.builtin "max") zMax1 := ⟨_, cr_max hc, fun S A H Δ xs ds P Q hc r hz k => by
  obtain ⟨d, ns, rfl, hd, hne, q⟩ := hz
  obtain ⟨v, rfl, rv⟩ := one_rep r
  obtain ⟨pa, ys, rfl, hq, rr⟩ := Rep.lst_ hc rv hd
  obtain rfl := repL_int rr
  exact ⟨pa, ns, rfl, SqL.of hq, List.length_pos_iff.mpr hne, fun m h1 h2 => k _ _ A H Δ (Ext.refl _ _) hc (.int _) (q m h1 h2)⟩⟩
/-! ### isinstance(x, (T, ..)) -/
inductive ClsDs (C : CI) : List D → List Value → Prop where
  | nil : ClsDs C [] []
  | cons {d : D} {u : Value} {ds : List D} {us : List Value} (h : clsD C d = some u) (r : ClsDs C ds us) : ClsDs C (d :: ds) (u :: us)
theorem RepL.clsVs {K : PySem.W.Frag} {S A : List Addr} {H : Hp} : ∀ {ds : List D} {us : List Value} {vs : List V}, ClsDs C ds us → RepL K C S A H vs ds → Paired ClsV vs us
  | _, _, _, .nil, h => by cases h; exact .nil
  | _, _, _, .cons h r, q => by
    cases q with
    | cons q1 q2 => exact .cons (q1.clsV h) (RepL.clsVs r q2)
def zIsiT (K : PySem.W.Frag) (C : CI) : ZRC := fun ds Δ P => ∃ x ys t us b, ds = [x, .tup ys] ∧ tyD C Δ x = some t ∧ ClsDs C ys us ∧ (∀ Ca, t = .ref Ca → Isi K Ca) ∧ PySem.W.kitAny K t us = some b ∧ P (.bl b) Δ
theorem cz_isiT : CallZ C X (.builtin "isinstance") (zIsiT X.K C) := ⟨_, call_isiT, fun S A H Δ xs ds P Q hc r hz k => by
  obtain ⟨x, ys, t, us, b, rfl, h1, h2, h3, h4, q⟩ := hz
  obtain ⟨v, v', rfl, rv, rv'⟩ := two_rep r
  cases rv' with
  | tup g1 g2 g3 g4 => exact ⟨v, _, _, t, us, b, rfl, g1, g4.clsVs h2, rv.tyX hc h1 h3, h4, k _ _ A H Δ (Ext.refl _ _) hc (.bl _) q⟩⟩
end
/-! ### a new list, made by a call that is lent the cells' contents -/
section
variable {K : PySem.W.Frag} {C : CI} {S A : List Addr} {H H' : Hp} {Δ : Store}
mutual
theorem Rep.re {A A' : List Addr} (c : ∀ a xs, H a = some (.tup xs) → a ∉ A) : ∀ (d : D) {v : V}, bareT d = true → Rep K C S A' H v d → Rep K C S A H v d
  | .non, _, _, h => by cases h; exact .non
  | .bl b, _, _, h => by cases h; exact .bl b
  | .int i, _, _, h => by cases h; exact .int i
  | .str x, _, _, h => by cases h; exact .str x
  | .tup ds, _, hb, h => by cases h with | tup h1 hA hS r => exact .tup h1 (c _ _ h1) hS (RepL.re c ds hb r)
  | .ty _, _, hb, _ => by cases hb
  | .cls _, _, hb, _ => by cases hb
  | .lst _, _, hb, _ => by cases hb
  | .ins _ _, _, hb, _ => by cases hb
  | .dct _ _, _, hb, _ => by cases hb
  | .cell _, _, hb, _ => by cases hb
  | .scr _, _, hb, _ => by cases hb
theorem RepL.re {A A' : List Addr} (c : ∀ a xs, H a = some (.tup xs) → a ∉ A) : ∀ (ds : List D) {vs : List V}, bareTs ds = true → RepL K C S A' H vs ds → RepL K C S A H vs ds
  | [], _, _, h => by cases h; exact .nil
  | d :: ds, _, hb, h => by
    have hb' : (bareT d && bareTs ds) = true := hb
    rw [Bool.and_eq_true] at hb'
    cases h with
    | cons h r => exact .cons (Rep.re c d hb'.1 h) (RepL.re c ds hb'.2 r)
end
/-- a list that stood nowhere becomes a cell of the caller -/
theorem Cells.adopt (c1 : Cells K C S A H Δ) {A' : List Addr} {Δ' : Store} (e2 : Ext [] H A' H') (c2 : Cells K C S A' H' Δ') {m : Nat} {a : Addr} {es : List D} (h1 : A'[m]? = some a) (h2 : Δ'[m]? = some (.lst es)) (hb : bareTs es = true) :
    H a = none ∧ Ext A H (A ++ [a]) H' ∧ Cells K C S (A ++ [a]) H' (Δ ++ [.lst es]) ∧ ∃ xs, H' a = some (.lst xs) ∧ RepL K C S A H' xs es := by
  have kp : ∀ b o, H b = some o → H' b = some o := fun b o h => e2.keep b o (fun q => nomatch q) h
  have ha : a ∈ A' := List.mem_of_getElem? h1
  obtain ⟨B, hB, nB⟩ := e2.pre
  have hn : H a = none := by
    rw [hB, List.nil_append] at ha
    exact nB a ha
  have haS : a ∉ S := c2.dj a ha
  have haA : a ∉ A := c1.fresh hn
  obtain ⟨xs, g1, g2⟩ := c2.at_ m a _ h1 h2
  have k1 := c1.kept kp
  have nt : ∀ b ys, H' b = some (.tup ys) → b ∉ A := fun b ys h => k1.no_tup h
  have nt2 : ∀ b ys, H' b = some (.tup ys) → b ∉ A ++ [a] := fun b ys h hm => by
    rcases List.mem_append.mp hm with hm | hm
    · exact nt b ys h hm
    · rw [List.mem_singleton] at hm
      subst hm
      rw [g1] at h
      cases h
  have ex : Ext A H (A ++ [a]) H' := ⟨⟨[a], rfl, fun b hb => by rw [List.mem_singleton] at hb; rw [hb]; exact hn⟩, fun b o _ h => kp b o h, e2.trk⟩
  refine ⟨hn, ex, ⟨by rw [List.length_append, List.length_append, c1.len] <;> rfl, ?_, ?_, ?_, ?_⟩, xs, g1, RepL.re nt es hb g2⟩
  · refine List.nodup_append.mpr ⟨c1.nd, by simp, fun b hb c hc => ?_⟩
    rw [List.mem_singleton] at hc
    subst hc
    exact fun q => haA (q ▸ hb)
  · intro b hb
    rcases List.mem_append.mp hb with hb | hb
    · exact c1.dj b hb
    · rw [List.mem_singleton] at hb
      subst hb
      exact haS
  · exact fun b hb => c2.as b hb
  · intro n b w q1 q2
    by_cases hn2 : n < A.length
    · rw [List.getElem?_append_left hn2] at q1
      rw [List.getElem?_append_left (by rw [← c1.len]; exact hn2)] at q2
      exact (c1.at_ n b w q1 q2).mono ex.mo (kp b)
    · have hn3 : n = A.length := by
        have := (List.getElem?_eq_some_iff.mp q1).1
        rw [List.length_append] at this
        simp at this
        omega
      subst hn3
      rw [List.getElem?_append_right (Nat.le_refl _), Nat.sub_self] at q1
      rw [c1.len, List.getElem?_append_right (Nat.le_refl _), Nat.sub_self] at q2
      simp at q1 q2
      subst q1
      subst q2
      exact ⟨xs, g1, RepL.re nt2 es hb g2⟩
end
/-- the new list may be changed by the caller -/
def lentC (W : ZRC) : ZRC := fun ds Δ P => Z.belowL 0 (ds.map (Z.thaw Δ)) = true ∧ W (ds.map (Z.thaw Δ)) [] fun d Δ' => ∃ m es, d = .cell m ∧ Δ'[m]? = some (.lst es) ∧ bareTs es = true ∧ P (.cell Δ.length) (Δ ++ [.lst es])
/-- the caller never changes the new list -/
def lentF (W : ZRC) : ZRC := fun ds Δ P => Z.belowL 0 (ds.map (Z.thaw Δ)) = true ∧ W (ds.map (Z.thaw Δ)) [] fun d Δ' => ∃ m es, d = .cell m ∧ Δ'[m]? = some (.lst es) ∧ bareTs es = true ∧ P (.lst es) Δ
def zCallBC (W : ZRC) (za : ZA) : ZE := fun Γ Δ P => za Γ Δ fun ds Δ1 => lentC W ds Δ1 P
def zCallBF (W : ZRC) (za : ZA) : ZE := fun Γ Δ P => za Γ Δ fun ds Δ1 => lentF W ds Δ1 P
section
variable {C : CI} {X : Cx} {e : Expr} {es : List Expr} {za : ZA} {pos p : Pos} {x : Str} {k : Nat} {f : Addr} {fd : FuncData} {ps : List Str} {W : ZRC}
theorem ref_callBC {K : PySem.W.Frag} {ta : TA} {E : XK} (ha : RefA K C ta za) : RefE K C (tCall (SpZ K C W) [] E ta) (zCallBC W za) := fun S A σ H Γ Δ P Q hs hc hz k =>
  ha S A σ H Γ Δ _ _ hs hc hz fun vs ds A1 H1 Δ1 e1 c1 r1 p => by
    obtain ⟨hb, p⟩ := p
    refine ⟨S, [], [], ds.map (Z.thaw Δ1), _, ?_, ⟨rfl, .nil, (fun a ha => nomatch ha), c1.as, (fun n a o h => nomatch h)⟩, p, fun v d A' H' Δ' e2 c2 r2 p2 => ?_⟩
    · rw [List.append_nil]; exact RepL.thw c1 ds hb r1
    · obtain ⟨m, es, rfl, h2, hb2, p2⟩ := p2
      cases r2 with
      | cell h1 =>
        rename_i a
        obtain ⟨q1, q2, q3, _⟩ := c1.adopt e2 c2 h1 h2 hb2
        refine k _ _ (A1 ++ [a]) H' _ (e1.trans q2) q3 (.cell ?_) p2
        rw [← c1.len, List.getElem?_append_right (Nat.le_refl _), Nat.sub_self]
        rfl
theorem ref_callBF {K : PySem.W.Frag} {ta : TA} {E : XK} (ha : RefA K C ta za) : RefE K C (tCall (SpZ K C W) [] E ta) (zCallBF W za) := fun S A σ H Γ Δ P Q hs hc hz k =>
  ha S A σ H Γ Δ _ _ hs hc hz fun vs ds A1 H1 Δ1 e1 c1 r1 p => by
    obtain ⟨hb, p⟩ := p
    refine ⟨S, [], [], ds.map (Z.thaw Δ1), _, ?_, ⟨rfl, .nil, (fun a ha => nomatch ha), c1.as, (fun n a o h => nomatch h)⟩, p, fun v d A' H' Δ' e2 c2 r2 p2 => ?_⟩
    · rw [List.append_nil]; exact RepL.thw c1 ds hb r1
    · obtain ⟨m, es, rfl, h2, hb2, p2⟩ := p2
      cases r2 with
      | cell h1 =>
        rename_i a
        obtain ⟨q1, q2, q3, xs, q4, q5⟩ := c1.adopt e2 c2 h1 h2 hb2
        have kp : ∀ a o, H1 a = some o → H' a = some o := fun a o h => e2.keep a o (fun q => nomatch q) h
        exact k _ _ A1 H' Δ1 (e1.trans (Ext.kept kp)) (c1.kept kp) (.lst q4 (c1.fresh q1) (c2.dj a (List.mem_of_getElem? h1)) q5) p2
theorem ez_callbC (F : FnOk X.prog X.w X.K X.mg X.base CX0 k f fd ps (SpZ X.K C W)) (hr : Room k X.A) (hm : X.mg x = some (.ref f)) (hk : PySem.W.keepIn X.K (.ref f) = true) (hb : Binds X.K fd ps [])
    (ha : AZ C X (e :: es) za) (hg : Gl X x := by rfl) (hdb : (x == ("__debug__" : Str)) = false := by decide) (he : starEach (e :: es) X.env = (false, eval e X.env) :: starEach es X.env := by rfl) (hpl : (backTo pos (starEach es X.env)).any (·.1) = false := by rfl) :
    EZ C X (.Call (.Name x p) (e :: es) [] pos) (zCallBC W za) := by
  obtain ⟨t, a1, a2⟩ := ha.ex
  exact ⟨_, pe_call F hr hg hm hk hb .nil pass0 a1 hdb he hpl, ref_callBC a2⟩
theorem ez_callbF (F : FnOk X.prog X.w X.K X.mg X.base CX0 k f fd ps (SpZ X.K C W)) (hr : Room k X.A) (hm : X.mg x = some (.ref f)) (hk : PySem.W.keepIn X.K (.ref f) = true) (hb : Binds X.K fd ps [])
    (ha : AZ C X (e :: es) za) (hg : Gl X x := by rfl) (hdb : (x == ("__debug__" : Str)) = false := by decide) (he : starEach (e :: es) X.env = (false, eval e X.env) :: starEach es X.env := by rfl) (hpl : (backTo pos (starEach es X.env)).any (·.1) = false := by rfl) :
    EZ C X (.Call (.Name x p) (e :: es) [] pos) (zCallBF W za) := by
  obtain ⟨t, a1, a2⟩ := ha.ex
  exact ⟨_, pe_call F hr hg hm hk hb .nil pass0 a1 hdb he hpl, ref_callBF a2⟩
end
/-! ### a def that is never called -/
theorem fn_never {P : Program} {w : World} {K : PySem.W.Frag} {mg : Str → Option Value} {base : Heap} {C : CI} {k : Nat} {f : Addr} {fd : FuncData} {ps : List Str} : FnOk P w K mg base CX0 k f fd ps (SpZ K C fun _ _ _ => False) :=
  ⟨fun _ _ _ _ h => by obtain ⟨_, _, _, _, _, _, _, h, _⟩ := h; exact h.elim, fun _ _ _ _ _ _ _ _ _ _ _ _ _ h => by obtain ⟨_, _, _, _, _, _, _, h, _⟩ := h; exact h.elim⟩
/-! ### list(range(..)) -/
section
variable {C : CI} {X : Cx} {a b : Expr} {za zb : ZE} {p p2 pos pos2 : Pos}
def zLstR1 (za : ZE) : ZE := fun Γ Δ P => za Γ Δ fun x Δ1 => ∃ n : Int, x = .int n ∧ RgOk 0 n ∧ P (.lst (rangeD 0 n)) Δ1
def zLstR2 (za zb : ZE) : ZE := fun Γ Δ P => za Γ Δ fun x Δ1 => zb Γ Δ1 fun y Δ2 => ∃ i j : Int, x = .int i ∧ y = .int j ∧ RgOk i j ∧ P (.lst (rangeD i j)) Δ2
theorem rep_rg {K : PySem.W.Frag} {S A : List Addr} {H : Hp} (lo : Int) : ∀ (l : List Nat), RepL K C S A H (l.map fun (i : Nat) => V.int (lo + (i : Int))) (l.map fun (i : Nat) => D.int (lo + (i : Int)))
  | [] => .nil
  | _ :: l => .cons (.int _) (rep_rg lo l)
theorem ez_lstR1 (hm : X.mg "list" = none) (hm2 : X.mg "range" = none) (ha : EZ C X a za) (hc : X.calm = true := by rfl) (hg : Gl X "list" := by rfl) (hg2 : Gl X "range" := by rfl) (na : starEach [a] X.env = (false, eval a X.env) :: starEach [] X.env := by rfl)
    (nb : starEach [.Call (.Name "range" p2) [a] [] pos2] X.env = (false, eval (.Call (.Name "range" p2) [a] [] pos2) X.env) :: starEach [] X.env := by rfl) : EZ C X (.Call (.Name "list" p) [.Call (.Name "range" p2) [a] [] pos2] [] pos) (zLstR1 za) := by
  obtain ⟨t, a1, a2⟩ := ha.ex
  refine ⟨_, pe_listRg hc hg hm (prg_1 hg2 hm2 a1 na) nb, fun S A σ H Γ Δ P Q hs hc hz k => a2 S A σ H Γ Δ _ _ hs hc hz fun x dx A1 H1 Δ1 e1 c1 r1 hz1 => ?_⟩
  obtain ⟨n, rfl, ok, q⟩ := hz1
  cases r1
  refine ⟨n, rfl, ok, fun p hp => ?_⟩
  exact k _ _ A1 _ Δ1 (e1.trans (Ext.new hp)) (c1.new hp) (.lst upd_same (c1.fresh hp) (c1.aside hp) (rep_rg _ _)) q
theorem ez_lstR2 (hm : X.mg "list" = none) (hm2 : X.mg "range" = none) (ha : EZ C X a za) (hb : EZ C X b zb) (hc : X.calm = true := by rfl) (hg : Gl X "list" := by rfl) (hg2 : Gl X "range" := by rfl) (na : starEach [a, b] X.env = (false, eval a X.env) :: starEach [b] X.env := by rfl) (na2 : starEach [b] X.env = (false, eval b X.env) :: starEach [] X.env := by rfl) (hpl : (backTo pos2 (starEach [b] X.env)).any (·.1) = false := by rfl)
    (nb : starEach [.Call (.Name "range" p2) [a, b] [] pos2] X.env = (false, eval (.Call (.Name "range" p2) [a, b] [] pos2) X.env) :: starEach [] X.env := by rfl) : EZ C X (.Call (.Name "list" p) [.Call (.Name "range" p2) [a, b] [] pos2] [] pos) (zLstR2 za zb) := by
  obtain ⟨t, a1, a2⟩ := ha.ex
  obtain ⟨u, b1, b2⟩ := hb.ex
  refine ⟨_, pe_listRg hc hg hm (prg_2 hg2 hm2 a1 b1 na na2 hpl) nb, fun S A σ H Γ Δ P Q hs hc hz k => a2 S A σ H Γ Δ _ _ hs hc hz fun x dx A1 H1 Δ1 e1 c1 r1 hz1 => b2 S A1 σ H1 Γ Δ1 _ _ (hs.ext e1) c1 hz1 fun y dy A2 H2 Δ2 e2 c2 r2 hz2 => ?_⟩
  obtain ⟨i, j, rfl, rfl, ok, q⟩ := hz2
  cases r1
  cases r2
  refine ⟨i, j, rfl, rfl, ok, fun p hp => ?_⟩
  exact k _ _ A2 _ Δ2 ((e1.trans e2).trans (Ext.new hp)) (c2.new hp) (.lst upd_same (c2.fresh hp) (c2.aside hp) (rep_rg _ _)) q
end
end Z

/-! Z18: ==, != and repr of lists in which cells stand. -/
namespace Z
open PySem PySem.Spec PyProof.Rows L2
theorem nd_t {p : Prop} [Decidable p] : ((!decide p) = true) = ¬ p := by by_cases h : p <;> simp [h]
theorem nd_f {p : Prop} [Decidable p] : ((!decide p) = false) = p := by by_cases h : p <;> simp [h]
/-- what a value is, down to a depth: cells by their contents -/
def rdk (Δ : Store) : Nat → D → D
  | 0, d => d
  | k + 1, .cell n => match Δ[n]? with
    | some (.lst ds) => .lst (ds.map (rdk Δ k))
    | _ => .cell n
  | k + 1, .lst ds => .lst (ds.map (rdk Δ k))
  | k + 1, .tup ds => .tup (ds.map (rdk Δ k))
  | _ + 1, .scr ns => .lst (ns.map D.int)
  | _ + 1, .non => .non
  | _ + 1, .bl b => .bl b
  | _ + 1, .int i => .int i
  | _ + 1, .str x => .str x
  | _ + 1, .ty n => .ty n
  | _ + 1, .ins c ds => .ins c ds
  | _ + 1, .cls c => .cls c
  | _ + 1, .dct ks ds => .dct ks ds
section
variable {K : PySem.W.Frag} {C : CI} {S A : List Addr} {H : Hp} {Δ : Store}
theorem dps_map {f : D → D} (hf : ∀ (d : D) (v : V), Rep K C S A H v d → plainD (f d) = true → Dp K H v (pd (f d))) : ∀ {ds : List D} {vs : List V}, RepL K C S A H vs ds → plainDs (ds.map f) = true → DpAll K H vs (pds (ds.map f))
  | _, _, .nil, _ => .nil
  | _, _, .cons (d := d) (ds := ds) h r, q => by
    have h' : (plainD (f d) && plainDs (ds.map f)) = true := q
    rw [Bool.and_eq_true] at h'
    exact .cons (hf _ _ h h'.1) (dps_map hf r h'.2)
theorem dp_rdk (hc : Cells K C S A H Δ) : ∀ (k : Nat) (d : D) (x : V), Rep K C S A H x d → plainD (rdk Δ k d) = true → Dp K H x (pd (rdk Δ k d))
  | 0, d, x, r, h => Rep.dp d h r
  | k + 1, d, x, r, h => by
    have ih := dp_rdk hc k
    cases r with
    | cell e =>
      rename_i a n
      unfold rdk at h ⊢
      cases q : Δ[n]? with
      | none => simp only [q] at h; cases h
      | some o =>
        cases o with
        | ins _ _ => simp only [q] at h; cases h
        | dct _ _ => simp only [q] at h; cases h
        | lst ds =>
          simp only [q] at h ⊢
          obtain ⟨xs, h1, h2⟩ := hc.at_ n a _ e q
          exact .lst (SqL.of h1) (dps_map (fun d v => ih d v) h2 h)
    | scr e =>
      rename_i a ns
      unfold rdk at h ⊢
      refine .lst ?_ (pds_ints ns)
      rcases e with ⟨⟨o, e⟩, _⟩ | e
      · exact .inl (.inr ⟨o, e⟩)
      · exact .inr e
    | non => exact .non
    | bl b => exact .bl b
    | int i => exact .int i
    | str x => exact .str x
    | ty n => cases h
    | cls n => cases h
    | tup h1 h2 h3 r => unfold rdk at h ⊢; exact .tup (SqT.of h1) (dps_map (fun d v => ih d v) r h)
    | lst h1 h2 h3 r => unfold rdk at h ⊢; exact .lst (SqL.of h1) (dps_map (fun d v => ih d v) r h)
    | ins _ _ _ _ _ => cases h
    | dct _ _ _ _ _ => cases h
end
def zEqD : ZR2 := fun x y Δ P => shp (rdk Δ 3 x) = true ∧ shp (rdk Δ 3 y) = true ∧ P (.bl (eqD (rdk Δ 3 x) (rdk Δ 3 y))) Δ
def zNeD : ZR2 := fun x y Δ P => shp (rdk Δ 3 x) = true ∧ shp (rdk Δ 3 y) = true ∧ P (.bl (!eqD (rdk Δ 3 x) (rdk Δ 3 y))) Δ
def zReprD : ZRC := fun ds Δ P => ∃ d, ds = [d] ∧ Showable (rdk Δ 3 d) ∧ P (.str (pd (rdk Δ 3 d)).shown) Δ
section
variable {C : CI} {X : Cx}
theorem oz_eqD (hu : X.A.units + 64 < cLine) : OpZ C X (compareOp .Eq) zEqD := ⟨_, op_eqD hu, fun S A H Δ x y dx dy P Q hc rx ry hz k => by
  obtain ⟨h1, h2, p⟩ := hz
  have g1 := Bool.and_eq_true_iff.mp h1
  have g2 := Bool.and_eq_true_iff.mp h2
  exact ⟨_, _, dp_rdk hc 3 dx x rx g1.1, dp_rdk hc 3 dy y ry g2.1, g1.2, g2.2, k _ _ A H Δ (Ext.refl _ _) hc (.bl _) p⟩⟩
theorem oz_neD (hu : X.A.units + 64 < cLine) : OpZ C X (compareOp .NotEq) zNeD := ⟨_, op_neD hu, fun S A H Δ x y dx dy P Q hc rx ry hz k => by
  obtain ⟨h1, h2, p⟩ := hz
  have g1 := Bool.and_eq_true_iff.mp h1
  have g2 := Bool.and_eq_true_iff.mp h2
  exact ⟨_, _, dp_rdk hc 3 dx x rx g1.1, dp_rdk hc 3 dy y ry g2.1, g1.2, g2.2, k _ _ A H Δ (Ext.refl _ _) hc (.bl _) p⟩⟩
theorem cz_reprD (gd : X.A.guards = some []) (hu : X.A.units + 64 < cLine) : CallZ C X (.builtin "repr") zReprD := ⟨_, cr_repr gd hu, fun S A H Δ xs ds P Q hc r hz k => by
  obtain ⟨d, rfl, sh, q⟩ := hz
  obtain ⟨v, rfl, rv⟩ := one_rep r
  exact ⟨v, rdk Δ 3 d, rfl, dp_rdk hc 3 d v rv sh.pl, sh, k _ _ A H Δ (Ext.refl _ _) hc (.str _) q⟩⟩
end
end Z

/-! Z19: len of a set comprehension of ints. -/
namespace Z
open PySem PySem.Spec PyProof.Rows L2
section
variable {X : Cx}
/-- an int goes into the set at a -/
theorem put_set {pins : List (Addr × Obj)} {σ : L2.St} {H : Hp} {z : Shared} {EE : Value → Shared → Prop} {a : Addr} {M : Int → Bool} {c : Nat} {i : Int} {ti : Tok} {R : Value → Shared → Prop} (J : Inv X pins σ H z) (ha : H a = some (SetO X.w a M c)) (few : c + 1 < scanBound)
    (k : ∀ z2, Inv X pins σ (upd H a (SetO X.w a (fun j => M j || decide (j = i)) (if M i = true then c else c + 1))) z2 → R .none z2) : wpAny (model X.prog X.w) X.A (call (.builtin "set.add") [.ref a, .int i ti]) R EE z := by
  refine setR_add (setO_get J ha) few fun g same made => ?_
  have here : ∃ ob, g.get? a = some ob := made.elim fun ob h => h.elim fun _ h => h.elim fun _ h => h.elim fun _ h => ⟨ob, h.1⟩
  exact k _ (J.write (e := a) (t' := z.toks + 1) (by rw [ha]; trivial) (.inl rfl) (fun b u nb hu => (same.2 b nb).trans hu) here (setO_new made))
/-- {elt for tg in iter if ..}, elt an int: a is the new set -/
def tSI (w : World) (wi : TI) (g : TG) (tt : TT) (te : TE) (vs : List Nat) : TE := fun σ H Q => wi σ H fun J H1 => ∀ a, H1 a = none → ∃ V : Nat → Nat → Hp → Prop, (∃ m, V 0 m (upd H1 a (SetO w a (fun _ => false) 0))) ∧
  ∀ i m H, V i m H → (J.stop i H ∧ Q (.ref a) H) ∨ (J.go i H ∧ ∃ F : Hp → Prop, (∀ H', F H' → ∃ m', m' < m ∧ V (i + 1) m' H') ∧
    ∀ x H', J.yld i H x H' → g x (wipe σ vs) H' fun σ2 H2 => wipe σ2 vs = wipe σ vs ∧ tt σ2 H2 fun b H3 =>
      if b = true then te σ2 H3 fun y H4 => ∃ (k : Int) (M : Int → Bool) (c : Nat), y = .int k ∧ H4 a = some (SetO w a M c) ∧ c + 1 < scanBound ∧ F (upd H4 a (SetO w a (fun j => M j || decide (j = k)) (if M k = true then c else c + 1))) else F H3)
theorem peSI {elt tg iter : Expr} {ifs : List Expr} {sc : Scope} {own : List (PySem.Str × Nat)} {pos : Pos} {wi : TI} {g : TG} {tt : TT} {te : TE} (calm : X.calm = true) (nodup : X.N.Nodup) (hi : PI X tg iter wi) (ok : BlkOk X.N X.env.scope sc own)
    (pg : ∀ (z : Shared) (H : Hp) (Ca : Addr) (cl : List (PySem.Str × Addr)) (fp : List Addr), PG (X.blk z H sc (compEnvC sc cl Ca X.env) fp) tg g)
    (pt : ∀ (z : Shared) (H : Hp) (Ca : Addr) (cl : List (PySem.Str × Addr)) (fp : List Addr), PTs (X.blk z H sc (compEnvC sc cl Ca X.env) fp) ifs tt)
    (pe : ∀ (z : Shared) (H : Hp) (Ca : Addr) (cl : List (PySem.Str × Addr)) (fp : List Addr), PE (X.blk z H sc (compEnvC sc cl Ca X.env) fp) elt te) (plain : ∀ x, foldedSetIterable iter X.env x = pure x := by intro _; rfl) :
    PE X (.SetComp elt [⟨tg, iter, ifs, 0⟩] sc pos) (tSI X.w wi g tt te (own.map (·.2))) := by
  refine ⟨fun pins z σ H Q J want => ?_⟩
  rw [PpSet.eval_SetComp]
  have free : ∀ y ∈ sc.names, y.2 = .free → ∃ c, X.env.cells.lookup y.1 = some c := fun y hy e => (ok.free y hy e).elim (fun k => J.ok.has _ (.inl k)) fun k => J.ok.has _ (.inr k)
  refine wpAny_comprehension_free rfl plain (closure_ok free) ok.kind (fun y hy e => by rw [ok.uniq y hy]; rw [e]) (thn (hi.run pins z σ H _ J want) fun xv z1 h1 => thn h1 fun itv z2 h2 => ?_)
  obtain ⟨it, fp, tn, W, H2, e, J2, T, at0, far, q⟩ := h2
  subst e
  refine PpSet.newSet_ok (newEnv_comp ?_)
  -- the new set
  generalize ea : z2.heap.objs.size = a
  have na : H2 a = none := J2.hok.fresh (Nat.le_of_eq ea)
  obtain ⟨V, ⟨m0, v0⟩, turn⟩ := q a na
  generalize ez3 : ({ z2 with heap := z2.heap.push { cls := .type "set", dict := none, data := .set #[] 0 (.fresh 0 0 (!X.w.params.followText "set-order")) } } : Shared) = z3
  have hp3 : z3.heap = z2.heap.push { cls := .type "set", dict := none, data := .set #[] 0 (.fresh 0 0 (!X.w.params.followText "set-order")) } := by rw [← ez3]
  have J3 : Inv X pins σ (upd H2 a (SetO X.w a (fun _ => false) 0)) z3 := by
    rw [← ez3]
    refine J2.laid (t' := z2.toks) (fun _ _ old => Heap.get?_push_of_some _ old) (Nat.le_of_eq ea) ?_
    rw [← ea]
    exact setO_new (setR_fresh X.w)
  have low : ∀ b ∈ fp, b < z2.heap.objs.size := fun b hb => (T.obj _ _ at0 b hb).elim fun _ h => Heap.lt_size h.1
  have far3 : ∀ b ∈ fp, FpOk X pins (upd H2 a (SetO X.w a (fun _ => false) 0)) b ∧ b < z3.heap.objs.size := fun b hb => by
    have l := low b hb
    have ne : b ≠ a := by rw [← ea]; exact Nat.ne_of_lt l
    exact ⟨⟨by rw [upd_ne ne]; exact (far b hb).1, (far b hb).2⟩, by rw [hp3, Heap.size_push]; exact Nat.lt_succ_of_lt l⟩
  have at3 : tn 0 z3.heap := T.keep _ _ _ at0 fun _ _ _ old => by rw [hp3]; exact Heap.get?_push_of_some _ old
  generalize eH : upd H2 a (SetO X.w a (fun _ => false) 0) = H3 at J3 far3 v0
  have J4 := block_start J3 ok nodup far3
  generalize ecl : cellsFrom (z3.heap.objs.size + 1) sc.names (cloFrom X.env.cells sc.names []) = cl at J4 ⊢
  replace pg := pg z3 H3 z3.heap.objs.size cl fp
  replace pt := pt z3 H3 z3.heap.objs.size cl fp
  replace pe := pe z3 H3 z3.heap.objs.size cl fp
  have none3 : ∀ b ∈ fp, H3 b = none := fun b hb => (far3 b hb).1.1
  show codeAny _ _ (.compStart (.SetComp elt [⟨tg, iter, ifs, 0⟩] sc pos) 0 (.ref it) (.ref a) (compEnvC sc cl z3.heap.objs.size X.env)) (compPost (model X.prog X.w) X.A X.xe none (EP X pins σ Q) (.ref a) z3.heap.objs.size) { z3 with heap := pushCells (z3.heap.push { cls := .type "dict", data := .dict #[] }) sc.names }
  generalize ece : compEnvC sc cl z3.heap.objs.size X.env = ce at J4 pg pt pe ⊢
  have lc : ce.locals = z3.heap.objs.size := by rw [← ece]; rfl
  generalize ez4 : ({ z3 with heap := pushCells (z3.heap.push { cls := .type "dict", data := .dict #[] }) sc.names } : Shared) = z4 at J4 ⊢
  have at4 : tn 0 z4.heap := T.keep _ _ _ at3 fun _ _ _ old => by rw [← ez4]; exact pushCells_keeps _ _ _ _ (Heap.get?_push_of_some _ old)
  have stays : ∀ {σ' : L2.St} {H' : Hp} {z' : Shared}, Inv (X.blk z3 H3 sc ce fp) [] σ' H' z' → (∀ b ∈ fp, H' b = none) → ∀ b ∈ fp, FpOk (X.blk z3 H3 sc ce fp) [] H' b := fun {σ' H' z'} J' no b hb =>
    ⟨no b hb, (J'.ok.exf b hb).1, J'.ok.exfs b hb, .inl hb, fun x c e => (J'.ok.exf b hb).2 x c e, fun p hp => absurd (show p ∈ ([] : List (Addr × Obj)) ++ [] from hp) (by simp)⟩
  have walk : codeAny (model X.prog X.w) X.A (.compLoop (.SetComp elt [⟨tg, iter, ifs, 0⟩] sc pos) 0 (.ref it) (.ref a) ce) (compPost (model X.prog X.w) X.A X.xe none (EP X pins σ Q) (.ref a) z3.heap.objs.size) z4 := by
    refine PpSet.compLoopS_any (fun m z' => ∃ i H', Inv (X.blk z3 H3 sc ce fp) [] (wipe σ (own.map (·.2))) H' z' ∧ tn i z'.heap ∧ (∀ b ∈ fp, H' b = none) ∧ V i m H') ?_ m0 ⟨0, H3, J4, at4, none3, v0⟩
    rintro m z5 ⟨i, H5, J5, at5, no5, v5⟩
    rcases turn i m H5 v5 with ⟨stop, done⟩ | ⟨go, F, hF, step⟩
    · refine thnF (T.done (X.blk z3 H3 sc ce fp) rfl rfl rfl calm i [] z5 _ H5 (fun _ _ => False) J5 (stays J5 no5) at5 stop) fun r z6 ⟨er, J6⟩ => ?_
      subst er
      have J7 : Inv X pins σ H5 z6 := J3.call' (ch := fp) J6.os J6.base J6.hok J6.bare fun b hb => ⟨(far3 b hb).1.2.2.2.1, (far3 b hb).1.2.1, (far3 b hb).1.2.2.2.2.1, (far3 b hb).1.2.2.2.2.2⟩
      have nl : H5 z3.heap.objs.size = none := lc ▸ (show H5 ce.locals = none from J6.free)
      obtain ⟨m', hm', _⟩ := J6.loc
      refine ⟨m', lc ▸ (show z6.heap.Ns ce.locals m' from hm'), fun g2 same => ?_⟩
      obtain ⟨f0, f1, f2, f3, f4, f5⟩ := J3.fpOk (Nat.le_refl _) nl
      exact ⟨.ref a, H5, J7.turned (t' := z6.toks) (fun b o nb old => (same.2 b nb).trans old) f0 f1 f3 f4 f5, rfl, done⟩
    · refine thnF (T.item (X.blk z3 H3 sc ce fp) rfl rfl rfl calm i [] z5 _ H5 (fun _ _ => False) J5 (stays J5 no5) at5 go) fun r z6 ⟨u, er, h6⟩ => ?_
      subst er
      refine thnF h6 fun _ z7 ⟨x, H7, J7, r7, y7, at7, no7⟩ => ?_
      have J8 := J7.pinned (stays J7 no7) (T.obj _ _ at7)
      refine thnF (pg.run _ z7 _ H7 x u _ J8 r7 (step x H7 y7)) fun _ z8 ⟨σ8, H8, J9, same8, q8⟩ => thnF (pt.run _ z8 σ8 H8 _ J9 q8) fun b z9 ⟨H9, J10, w9⟩ => ?_
      have ends : ∀ {z' : Shared} {H' : Hp}, Inv (X.blk z3 H3 sc ce fp) ([] ++ pinsAt fp z7.heap) σ8 H' z' → F H' → ∃ m', m' < m ∧ ∃ i H', Inv (X.blk z3 H3 sc ce fp) [] (wipe σ (own.map (·.2))) H' z' ∧ tn i z'.heap ∧ (∀ b ∈ fp, H' b = none) ∧ V i m' H' := fun {z' H'} J' f => by
        obtain ⟨m', less, v'⟩ := hF H' f
        have pin : ∀ b ∈ fp, ∀ o, z7.heap.get? b = some o → z'.heap.get? b = some o ∧ H' b = none := fun b hb o e => by
          have w := J'.pin (b, o) (List.mem_append_right _ (List.mem_append_right _ (mem_pinsAt hb e)))
          exact ⟨w.1, w.2.1⟩
        refine ⟨m', less, i + 1, H', (J'.unpinned (pins := [])).weak (by rw [← same8, wipe_length]) (fun j v e => (wipe_some (by rw [← same8] at e; exact e)).1), T.keep _ _ _ at7 fun b hb o e => (pin b hb o e).1, fun b hb => ?_, v'⟩
        obtain ⟨o, e, _⟩ := T.obj _ _ at7 b hb
        exact (pin b hb o e).2
      cases b with
      | false =>
        rw [if_neg Bool.false_ne_true] at w9
        show if false = true then _ else _
        rw [if_neg Bool.false_ne_true]
        exact ends J10 w9
      | true =>
        rw [if_pos rfl] at w9
        show if true = true then _ else _
        rw [if_pos rfl]
        refine thnF (pe.run _ z9 σ8 H9 _ J10 w9) fun v z10 ⟨yv, H10, J11, r10, k, M, c, ey, ha, few, f⟩ => ?_
        subst ey
        obtain ⟨tk, ev⟩ := (show ∃ t, v = Value.int k t from r10)
        subst ev
        exact put_set (X := X.blk z3 H3 sc ce fp) J11 ha few fun z11 J12 => ends J12 f
  exact PpSet.codeAny_compStart_set walk (T.self X.A 0 _ _ _ at4 walk)
/-- len of a set of ints -/
def rLenS (w : World) : List V → Hp → VK → Prop := fun xs H Q => ∃ (a : Addr) (M : Int → Bool) (c : Nat), xs = [.ref a] ∧ H a = some (SetO w a M c) ∧ ∀ ks : List Int, ks.Nodup → (∀ k, k ∈ ks ↔ M k = true) → Q (.int (ks.length : Nat)) H
theorem cr_lenS : CallR X (.builtin "len") (rLenS X.w) := by
  rintro pins z σ H _ us Q J r ⟨a, M, c, rfl, ha, q⟩
  rw [Vals.ref1 r]
  obtain ⟨o, es, ep, t, ho, hex, hd, g, nd, hm, hb, hf, hn, _⟩ := setO_get J ha
  have few : es.size < 2 ^ 60 := Nat.lt_trans hb (by unfold scanBound; decide)
  refine call_len_set ho hex hd hf (by omega) ⟨.int _, H, J.tok _, ⟨_, rfl⟩, ?_⟩
  have := q (es.toList.map keyOf) nd fun k => (hm k).symm
  rw [List.length_map, Array.length_toList] at this
  exact this
end
/-! ### the reading -/
def compS (zg : ZG) (zt : ZT) (ze : ZE) (Γ0 : Env) (P : List Int → Store → Prop) : List D → List Int → Store → Prop
  | [], acc, Δ => P acc Δ
  | x :: xs, acc, Δ => zg x Γ0 Δ fun Γ2 Δ2 => zt Γ2 Δ2 fun b Δ3 => (b = true → ze Γ2 Δ3 fun y Δ4 => ∃ k : Int, y = .int k ∧ acc.length < 4000 ∧ compS zg zt ze Γ0 P xs (acc ++ [k]) Δ4) ∧ (b = false → compS zg zt ze Γ0 P xs acc Δ3)
/-- len({elt for tg in iter if ..}) -/
def zLenS (zi : ZI) (zg : ZG) (zt : ZT) (ze : ZE) (vs : List Nat) : ZE := fun Γ Δ P => zi Γ Δ fun items Δ1 => compS zg zt ze (wipeZ Γ vs) (fun ns Δ2 => ∀ ks : List Int, ks.Nodup → (∀ k, k ∈ ks ↔ k ∈ ns) → P (.int (ks.length : Nat)) Δ2) items [] Δ1
section
variable {K : PySem.W.Frag} {C : CI} {S A : List Addr} {H : Hp} {Δ : Store} {q : Addr}
theorem cells_aside {o : HO} (c : Cells K C (q :: S) A H Δ) : Cells K C (q :: S) A (upd H q o) Δ ∧ Mo (q :: S) A H (q :: S) A (upd H q o) := by
  have mo : Mo (q :: S) A H (q :: S) A (upd H q o) := ⟨⟨[], by simp, by simp⟩, fun _ h => .inl h, fun a u _ h2 h3 => by
    rw [upd_ne (fun h => h2 (by rw [h]; exact List.mem_cons_self))]; exact h3⟩
  have hq : q ∉ A := fun h => c.dj q h List.mem_cons_self
  refine ⟨⟨c.len, c.nd, c.dj, fun a ha h => ?_, fun n a u h1 h2 => (c.at_ n a u h1 h2).mono mo fun w h => ?_⟩, mo⟩
  · by_cases hb : a = q
    · subst hb; rw [upd_same] at h; cases h
    · rw [upd_ne hb] at h; exact c.as a ha h
  · rw [upd_ne (fun hb => hq (by rw [← hb]; exact List.mem_of_getElem? h1))]; exact h
theorem ref_lenS {w : World} {wi : TI} {g : TG} {tt : TT} {te : TE} {vs : List Nat} {zi : ZI} {zg : ZG} {zt : ZT} {ze : ZE} (hi : RefI K C wi zi) (hg : RefG K C g zg) (ho : Own g vs) (ht : RefT K C tt zt) (he : RefE K C te ze) :
    RefE K C (fun σ H Q => tSI w wi g tt te vs σ H fun v H1 => rLenS w [v] H1 Q) (zLenS zi zg zt ze vs) := fun S A σ H Γ Δ P Q hs hc hz k => hi S A σ H Γ Δ _ _ hs hc hz fun J n G Y items A1 H1 Δ1 e1 c1 p hn wk hG hY q hq => by
  have s1 := hs.ext e1
  let I : Nat → Hp → Prop := fun i H2 => ∃ A2 Δ2 acc c, Ext A1 H1 A2 H2 ∧ Mo S A1 H1 (q :: S) A2 H2 ∧ Cells K C (q :: S) A2 H2 Δ2 ∧ H2 q = some (SetO w q (fun j => decide (j ∈ acc)) c) ∧ c ≤ acc.length ∧
    compS zg zt ze (wipeZ Γ vs) (fun ns Δ2 => ∀ ks : List Int, ks.Nodup → (∀ k, k ∈ ks ↔ k ∈ ns) → P (.int (ks.length : Nat)) Δ2) (items.drop i) acc Δ2
  have i0 : I 0 (upd H1 q (SetO w q (fun _ => false) 0)) := by
    have mo0 : Mo S A1 H1 (q :: S) A1 (upd H1 q (SetO w q (fun _ => false) 0)) := ⟨⟨[], by simp, by simp⟩, fun b hb => by
      rcases List.mem_cons.mp hb with rfl | hb
      · exact .inr hq
      · exact .inl hb, fun a o _ _ h => by rw [upd_ne (ne_of_none h hq)]; exact h⟩
    refine ⟨A1, Δ1, [], 0, Ext.new hq, mo0, ⟨c1.len, c1.nd, fun a ha hb => ?_, fun a ha h => ?_, fun n a o h1 h2 => (c1.at_ n a o h1 h2).mono mo0 fun u h => by rw [upd_ne (ne_of_none h hq)]; exact h⟩, ?_, Nat.le_refl _, p⟩
    · rcases List.mem_cons.mp hb with rfl | hb
      · exact c1.fresh hq ha
      · exact c1.dj a ha hb
    · rcases List.mem_cons.mp ha with rfl | ha
      · rw [upd_same] at h; cases h
      · exact c1.as a ha ((Ext.new (A := A1) hq).trk a h)
    · have e : (fun j : Int => decide (j ∈ ([] : List Int))) = fun _ => false := by funext j; simp
      rw [e]; exact upd_same
  refine ⟨fun i m H2 => m = n - i ∧ i ≤ n ∧ I i H2, ⟨n, by simp, Nat.zero_le _, i0⟩, ?_⟩
  rintro i m H2 ⟨rfl, hin, A2, Δ2, acc, c, e2, m2, c2, hqv, hca, p2⟩
  have gg := hG (q :: S) A2 H2 m2
  by_cases hlt : i < n
  · refine .inr ⟨wk.goes i H2 hlt gg, I (i + 1), fun H' p' => ⟨n - (i + 1), by omega, rfl, hlt, p'⟩, fun x H3 y => ?_⟩
    obtain ⟨d, q1, q2, q3⟩ := hY (q :: S) A2 H2 Δ2 i x H3 hlt m2 c2 (wk.yields i H2 x H3 hlt gg y)
    rw [drop_cons q1] at p2
    have e3 : Ext A2 H2 A2 H3 := Ext.kept q2
    have s3 : Slots K C (q :: S) A2 H3 (wipe σ vs) (wipeZ Γ vs) := ((s1.mono m2).ext e3).wipe vs
    have fin : g x (wipe σ vs) H3 fun σ2 H4 => wipe σ2 vs = wipe (wipe σ vs) vs ∧ tt σ2 H4 fun b H5 =>
        if b = true then te σ2 H5 fun y H6 => ∃ (k : Int) (M : Int → Bool) (c : Nat), y = .int k ∧ H6 q = some (SetO w q M c) ∧ c + 1 < scanBound ∧ I (i + 1) (upd H6 q (SetO w q (fun j => M j || decide (j = k)) (if M k = true then c else c + 1)))
        else I (i + 1) H5 := by
      refine ho _ _ _ _ (hg (q :: S) A2 (wipe σ vs) H3 (wipeZ Γ vs) Δ2 x d _ _ s3 (c2.kept q2) q3 p2 fun σ4 A4 H4 Γ4 Δ4 e4 s4 c4 p4 => ?_)
      refine ht (q :: S) A4 σ4 H4 Γ4 Δ4 _ _ s4 c4 p4 fun b A5 H5 Δ5 e5 c5 p5 => ?_
      have e25 := (e3.trans e4).trans e5
      have e15 := e2.trans e25
      have hq2 : q ∉ A2 := fun h => c2.dj q h List.mem_cons_self
      have hq5 : H5 q = some (SetO w q (fun j => decide (j ∈ acc)) c) := e25.keep q _ hq2 hqv
      have m5 : Mo S A1 H1 (q :: S) A5 H5 := ⟨e15.pre, m2.sub, fun a o h1 _ h3 => e15.keep a o h1 h3⟩
      cases b with
      | false => exact iteF ⟨A5, Δ5, acc, c, e15, m5, c5, hq5, hca, p5.2 rfl⟩
      | true =>
        refine iteT (he (q :: S) A5 σ4 H5 Γ4 Δ5 _ _ (s4.ext e5) c5 (p5.1 rfl) fun y dy A6 H6 Δ6 e6 c6 r6 p6 => ?_)
        obtain ⟨k2, rfl, few, p6⟩ := p6
        cases r6
        have e16 := e15.trans e6
        have hq5' : q ∉ A5 := fun h => c5.dj q h List.mem_cons_self
        have hq6 : H6 q = some (SetO w q (fun j => decide (j ∈ acc)) c) := e6.keep q _ hq5' hq5
        have nq : ∀ a o, H1 a = some o → a ≠ q := fun a o h => ne_of_none h hq
        refine ⟨k2, _, c, rfl, hq6, by unfold scanBound; omega, A6, Δ6, acc ++ [k2], if decide (k2 ∈ acc) = true then c else c + 1, ?_, ?_, (cells_aside c6).1, ?_, ?_, p6⟩
        · exact ⟨e16.pre, fun a o h1 h2 => by rw [upd_ne (nq a o h2)]; exact e16.keep a o h1 h2, fun a h => by
            by_cases hb : a = q
            · subst hb; exact hq
            · rw [upd_ne hb] at h; exact e16.trk a h⟩
        · exact ⟨e16.pre, m2.sub, fun a o h1 _ h3 => by rw [upd_ne (nq a o h3)]; exact e16.keep a o h1 h3⟩
        · have e : (fun j : Int => decide (j ∈ acc) || decide (j = k2)) = fun j => decide (j ∈ acc ++ [k2]) := by
            funext j
            rw [Bool.eq_iff_iff]
            simp
          rw [e]
          exact upd_same
        · rw [List.length_append]
          show _ ≤ acc.length + 1
          split <;> omega
    rw [wipe_wipe] at fin
    exact fin
  · have e : i = n := by omega
    subst e
    rw [hn, List.drop_length] at p2
    refine .inl ⟨wk.stops H2 gg, q, _, c, rfl, hqv, fun ks h1 h2 => ?_⟩
    have mo8 : Mo (q :: S) A2 H2 S A2 H2 := ⟨⟨[], by simp, by simp⟩, fun b hb => .inl (List.mem_cons_of_mem _ hb), fun _ _ _ _ h => h⟩
    exact k _ _ A2 H2 Δ2 (e1.trans e2) ⟨c2.len, c2.nd, fun a ha hb => c2.dj a ha (List.mem_cons_of_mem _ hb), fun a ha => c2.as a (List.mem_cons_of_mem _ ha), fun n a o h1 h2 => (c2.at_ n a o h1 h2).mono mo8 fun _ h => h⟩ (.int _) (p2 ks h1 fun k => by rw [h2, decide_eq_true_iff])
end
section
variable {C : CI} {X : Cx}
theorem ez_lenS {elt tg iter : Expr} {ifs : List Expr} {scope : Scope} {own : List (Str × Nat)} {p pos pos2 : Pos} {zi : ZI} {g : TG} {zg : ZG} {zt : ZT} {ze : ZE} (hm : X.mg "len" = none) (hN : X.N.Nodup) (hi : IZ C X tg iter zi) (ok : BlkOk X.N X.env.scope scope own) (ho : Own g (own.map (·.2))) (hb : BlkZ C X scope tg ifs elt g zg zt ze)
    (hc : X.calm = true := by rfl) (hs : ∀ x, foldedSetIterable iter X.env x = pure x := by intro _; rfl) (hg : Gl X "len" := by rfl)
    (st : starEach [.SetComp elt [⟨tg, iter, ifs, 0⟩] scope pos2] X.env = (false, eval (.SetComp elt [⟨tg, iter, ifs, 0⟩] scope pos2) X.env) :: starEach [] X.env := by rfl) (pl : (backTo pos (starEach [] X.env)).any (·.1) = false := by rfl) :
    EZ C X (.Call (.Name "len" p) [.SetComp elt [⟨tg, iter, ifs, 0⟩] scope pos2] [] pos) (zLenS zi zg zt ze (own.map (·.2))) := by
  obtain ⟨wi, i1, i2⟩ := hi.ex
  obtain ⟨tt, te, b1, b2, b3, b4⟩ := hb.ex
  exact ⟨_, pe_callB cr_lenS hg hm (by decide +kernel) (pa_cons (peSI hc hN i1 ok (fun s H Ca cl fp => (b1 s H Ca cl fp).1) (fun s H Ca cl fp => (b1 s H Ca cl fp).2.1) (fun s H Ca cl fp => (b1 s H Ca cl fp).2.2) hs) pa_nil st) (by decide) (by decide) st pl, ref_lenS i2 b2 ho b3 b4⟩
end
end Z

/-! Z20: reversed(list) walked; comprehensions given to a name as cells; lent comprehensions. -/
namespace Z
open PySem PySem.Spec PyProof.Rows L2
section
variable {C : CI} {X : Cx}
/-! ### reversed(xs) -/
def ziRev (z : ZE) : ZI := fun Γ Δ P => z Γ Δ fun d Δ1 => ∃ ds, d = .lst ds ∧ P ds.reverse Δ1
theorem walk_back {K : PySem.W.Frag} {a : Addr} {xs : List V} : Walk (Itv K a xs.length) xs.length (fun H => SqL K H a xs) (YAt xs.reverse) :=
  ⟨fun i _ hi q => ⟨hi, xs, xs[xs.length - 1 - i]'(by omega), q, List.getElem?_eq_getElem _⟩, fun _ _ => Nat.le_refl _, fun i _ _ _ hi q y => ⟨y.1, by
    rw [List.getElem?_reverse hi]
    exact y.2 xs q⟩⟩
theorem iz_rev {tg e : Expr} {z : ZE} {p pos : Pos} (h : EZ C X e z) (hm : X.mg "reversed" = none) (hg : Gl X "reversed" := by rfl) (hs : starEach [e] X.env = (false, eval e X.env) :: starEach [] X.env := by rfl) : IZ C X tg (.Call (.Name "reversed" p) [e] [] pos) (ziRev z) := by
  obtain ⟨t, h1, h2⟩ := h.ex
  refine ⟨_, RT.pi_revA hg hm h1 hs, fun S A σ H Γ Δ P R hs hc hz k => h2 S A σ H Γ Δ _ _ hs hc hz fun v d A1 H1 Δ1 e1 c1 r1 q => ?_⟩
  obtain ⟨ds, rfl, q⟩ := q
  cases r1 with
  | lst g1 g2 g3 g4 =>
    rename_i a xs
    refine ⟨a, xs, rfl, .inl ⟨SqL.of g1, ?_⟩⟩
    refine k (Itv X.K a xs.length) xs.length (fun H => SqL X.K H a xs) (YAt xs.reverse) ds.reverse A1 H1 Δ1 e1 c1 q (by rw [List.length_reverse, g4.length]) walk_back (fun S2 A2 H2 m => SqL.of (m.keep _ _ g2 g3 g1)) fun S2 A2 H2 Δ2 i x H3 hi m c2 y => ?_
    obtain ⟨rfl, y⟩ := y
    obtain ⟨d, q1, q2⟩ := (RepL.mono m _ g4.reverse).getV y
    exact ⟨d, q1, fun _ _ h => h, q2⟩
/-! ### a comprehension given to a name, as a cell -/
theorem sz_setLcC {i : Nat} {y : Str} {py : Pos} {elt tg iter : Expr} {ifs : List Expr} {scope : Scope} {own : List (Str × Nat)} {pos spos : Pos} {zi : ZI} {g : TG} {zg : ZG} {zt : ZT} {ze : ZE} (hN : X.N.Nodup) (hy : X.N[i]? = some y) (hyl : X.env.scope.names.lookup y = some .local)
    (hsw : swapsWith (.ListComp elt [⟨tg, iter, ifs, 0⟩] scope pos) (some (.Name y py)) spos.line X.env = pure true) (hi : IZ C X tg iter zi) (ok : BlkOk X.N X.env.scope scope own) (ho : Own g (own.map (·.2))) (hb : BlkZ C X scope tg ifs elt g zg zt ze)
    (hc : X.calm = true := by rfl) (hs : ∀ x, foldedSetIterable iter X.env x = pure x := by intro _; rfl) : SZ C X (.Assign [.Name y py] (.ListComp elt [⟨tg, iter, ifs, 0⟩] scope pos) spos) (zAsg (zLcC zi zg zt ze (own.map (·.2))) (zgName i)) := by
  obtain ⟨wi, i1, i2⟩ := hi.ex
  obtain ⟨tt, te, b1, b2, b3, b4⟩ := hb.ex
  exact ⟨_, ps_setLc hc hN hy hyl hsw i1 ok (fun s H Ca cl fp => (b1 s H Ca cl fp).1) (fun s H Ca cl fp => (b1 s H Ca cl fp).2.1) (fun s H Ca cl fp => (b1 s H Ca cl fp).2.2) hs, ref_asg (ref_lcC i2 b2 ho b3 b4) (gz_name (C := C) (pos := py) hN hy (.inl hyl) (.inr hyl)).ref⟩
end
/-! ### an expression that is lent the cells' contents and gives a new list -/
def zLendL (z : ZE) : ZE := fun Γ Δ P => z (Γ.map (lent1 Δ)) [] fun d Δ' => ∃ m es, d = .cell m ∧ Δ'[m]? = some (.lst es) ∧ bareTs es = true ∧ P (.lst es) Δ
theorem ref_lendL {K : PySem.W.Frag} {C : CI} {te : TE} {ze : ZE} (h : RefE K C te ze) : RefE K C te (zLendL ze) := fun S A σ H Γ Δ P Q hs hc hz k =>
  h S [] σ H _ [] _ Q (Slots.lent hc hs) ⟨rfl, .nil, (fun a ha => nomatch ha), hc.as, (fun n a o h => nomatch h)⟩ hz fun v d A' H' Δ' e2 c2 r2 p2 => by
    obtain ⟨m, es, rfl, g2, hb, p2⟩ := p2
    cases r2 with
    | cell g1 =>
      rename_i a
      obtain ⟨q1, q2, q3, xs, q4, q5⟩ := hc.adopt e2 c2 g1 g2 hb
      have kp : ∀ a o, H a = some o → H' a = some o := fun a o h => e2.keep a o (fun q => nomatch q) h
      exact k _ _ A H' Δ (Ext.kept kp) (hc.kept kp) (.lst q4 (hc.fresh q1) (c2.dj a (List.mem_of_getElem? g1)) q5) p2
section
variable {C : CI} {X : Cx}
theorem ez_lendL {e : Expr} {ze : ZE} (h : EZ C X e ze) : EZ C X e (zLendL ze) := by
  obtain ⟨t, h1, h2⟩ := h.ex
  exact ⟨t, h1, ref_lendL h2⟩
theorem sz_setLcL {i : Nat} {y : Str} {py : Pos} {elt tg iter : Expr} {ifs : List Expr} {scope : Scope} {own : List (Str × Nat)} {pos spos : Pos} {zi : ZI} {g : TG} {zg : ZG} {zt : ZT} {ze : ZE} (hN : X.N.Nodup) (hy : X.N[i]? = some y) (hyl : X.env.scope.names.lookup y = some .local)
    (hsw : swapsWith (.ListComp elt [⟨tg, iter, ifs, 0⟩] scope pos) (some (.Name y py)) spos.line X.env = pure true) (hi : IZ C X tg iter zi) (ok : BlkOk X.N X.env.scope scope own) (ho : Own g (own.map (·.2))) (hb : BlkZ C X scope tg ifs elt g zg zt ze)
    (hc : X.calm = true := by rfl) (hs : ∀ x, foldedSetIterable iter X.env x = pure x := by intro _; rfl) : SZ C X (.Assign [.Name y py] (.ListComp elt [⟨tg, iter, ifs, 0⟩] scope pos) spos) (zAsg (zLendL (zLcC zi zg zt ze (own.map (·.2)))) (zgName i)) := by
  obtain ⟨wi, i1, i2⟩ := hi.ex
  obtain ⟨tt, te, b1, b2, b3, b4⟩ := hb.ex
  exact ⟨_, ps_setLc hc hN hy hyl hsw i1 ok (fun s H Ca cl fp => (b1 s H Ca cl fp).1) (fun s H Ca cl fp => (b1 s H Ca cl fp).2.1) (fun s H Ca cl fp => (b1 s H Ca cl fp).2.2) hs, ref_asg (ref_lendL (ref_lcC i2 b2 ho b3 b4)) (gz_name (C := C) (pos := py) hN hy (.inl hyl) (.inr hyl)).ref⟩
end
/-! ### a comprehension within a comprehension -/
theorem relab_look {env : PySem.Env} : ∀ {names : List (Str × NameKind)} {x : Str}, names.lookup x = some .cell ∨ names.lookup x = some .free →
    (names.map fun (n, k) => if (k == .free && env.scope.kind == .function && env.kindOf n == some .cell) then (n, NameKind.cell) else (n, k)).lookup x = some .cell ∨
    (names.map fun (n, k) => if (k == .free && env.scope.kind == .function && env.kindOf n == some .cell) then (n, NameKind.cell) else (n, k)).lookup x = some .free
  | [], _, h => by simp at h
  | (n, k) :: r, x, h => by
    rw [List.map_cons]
    by_cases e : x = n
    · subst e
      rw [List.lookup_cons_self] at h
      cases hc : (k == .free && env.scope.kind == .function && env.kindOf x == some .cell) with
      | true =>
        left
        show List.lookup x ((if _ = true then (x, NameKind.cell) else (x, k)) :: _) = _
        rw [hc, if_pos rfl, List.lookup_cons_self]
      | false =>
        have h' : ∀ z, List.lookup x ((if (k == .free && env.scope.kind == .function && env.kindOf x == some .cell) = true then (x, NameKind.cell) else (x, k)) :: z) = some k := fun z => by
          rw [hc, if_neg Bool.false_ne_true, List.lookup_cons_self]
        exact h.imp (fun q => (h' _).trans q) fun q => (h' _).trans q
    · have ne : (x == n) = false := by rw [beq_eq_false_iff_ne]; exact e
      have h2 : r.lookup x = some .cell ∨ r.lookup x = some .free := by
        rw [List.lookup_cons, ne] at h
        exact h
      have ih := relab_look (env := env) h2
      have h' : ∀ z, List.lookup x ((if (k == .free && env.scope.kind == .function && env.kindOf n == some .cell) = true then (n, NameKind.cell) else (n, k)) :: z) = List.lookup x z := fun z => by
        cases hc : (k == .free && env.scope.kind == .function && env.kindOf n == some .cell) with
        | true => rw [if_pos rfl, List.lookup_cons, ne]
        | false => rw [if_neg Bool.false_ne_true, List.lookup_cons, ne]
      exact ih.imp (fun q => (h' _).trans q) fun q => (h' _).trans q
theorem blkOk_in {N : List Str} {sc scope : Scope} {env : PySem.Env} {own : List (Str × Nat)} (h : BlkOk N sc scope own) : BlkOk N (relabel sc env) scope own :=
  ⟨h.kind, h.uniq, h.ix, fun y hy e => relab_look (h.free y hy e), h.own⟩
end Z

/-! Z21: a, b, c = x, y, z with plain local names. -/
namespace Z
open PySem PySem.Spec PyProof.Rows L2
section
variable {C : CI} {X : Cx}
def zPar3 (i j l : Nat) (za : ZA) : ZS := fun Z Γ Δ => za Γ Δ fun ds Δ1 => ∃ a b c, ds = [a, b, c] ∧ Z.nx (((Γ.set i (some a)).set j (some b)).set l (some c)) Δ1
theorem sz_par3 {i j l : Nat} {x y z : Str} {a b c : Expr} {za : ZA} {px py pz pt pos : Pos} {kt k2 pt2} (hN : X.N.Nodup) (hi : X.N[i]? = some x) (hj : X.N[j]? = some y) (hl : X.N[l]? = some z) (hij : i ≠ j) (hil : i ≠ l) (hjl : j ≠ l)
    (hx : X.env.scope.names.lookup x = some .local) (hy : X.env.scope.names.lookup y = some .local) (hz : X.env.scope.names.lookup z = some .local) (ha : AZ C X [a, b, c] za)
    (hw : swappedStores [.Tuple [.Name x px, .Name y py, .Name z pz] kt pt] (.Tuple [a, b, c] k2 pt2) X.env = pure (some [x, y, z]) := by rfl)
    (hs : swapsWithSole [.Tuple [.Name x px, .Name y py, .Name z pz] kt pt] (.Tuple [a, b, c] k2 pt2) pos.line X.env = pure false := by rfl) (hc : X.calm = true := by rfl) :
    SZ C X (.Assign [.Tuple [.Name x px, .Name y py, .Name z pz] kt pt] (.Tuple [a, b, c] k2 pt2) pos) (zPar3 i j l za) := by
  obtain ⟨t, a1, a2⟩ := ha.ex
  refine ⟨_, ps_par3 hc hN hi hj hl hij hil hjl hx hy hz a1 hw hs, fun S A σ H Γ Δ Z N hs hc hz k => a2 S A σ H Γ Δ _ _ hs hc hz fun vs ds A1 H1 Δ1 e1 c1 r1 p => ?_⟩
  obtain ⟨a, b, c, rfl, p⟩ := p
  cases r1 with
  | cons r1 r2 =>
    cases r2 with
    | cons r2 r3 =>
      cases r3 with
      | cons r3 r4 =>
        cases r4
        exact ⟨_, _, _, rfl, k.nx _ A1 H1 _ Δ1 e1 ((((hs.ext e1).set i r1).set j r2).set l r3) c1 p⟩
end
end Z

namespace Bx
open PySem PySem.Spec PyProof.Rows L2 Z
/-! ### the text by places -/
def top (i : Nat) : Stmt := PySem.Challenge.pw_boxrows_k82_whole_repeated_drags.main.body.getD i (.Pass ⟨0, 0, 0, 0⟩)
abbrev s__law_fount : Stmt := top 43
abbrev s__law_sip : Stmt := top 44
abbrev s__law_sizes : Stmt := top 45
abbrev s__law_number : Stmt := top 46
abbrev s__law_drawn : Stmt := top 47
abbrev s_is_int : Stmt := top 10
abbrev s_are_sizes : Stmt := top 33
abbrev s_frees_of : Stmt := top 15
abbrev s_check_sizes : Stmt := top 34
abbrev s_is_drag : Stmt := top 35
abbrev s_check_drags : Stmt := top 36
abbrev s_have_one_divider : Stmt := top 38
abbrev s_check_directions : Stmt := top 39
abbrev s_limited : Stmt := top 13
abbrev s_path_of : Stmt := top 19
abbrev s_swung : Stmt := top 20
abbrev s_seen_from_behind : Stmt := top 25
abbrev s_rows_of : Stmt := top 21
abbrev s_one_behind_other : Stmt := top 22
abbrev s_many_times : Stmt := top 23
abbrev s_lifted_by : Stmt := top 24
abbrev s_lowered_by : Stmt := top 26
abbrev s_repeated_heights : Stmt := top 40
abbrev s_heights_of : Stmt := top 16
abbrev s_sizes_with : Stmt := top 17
abbrev s_repeated : Stmt := top 41
abbrev s_check_index : Stmt := top 28
abbrev s_taken_to : Stmt := top 18
abbrev s_dragged : Stmt := top 37
abbrev s__law_right : Stmt := top 48
abbrev s__law_sums_right : Stmt := top 49
abbrev s_law : Stmt := top 50
abbrev N__law_fount : List Str := ["script", "k", "cell"]
theorem sc__law_fount : FnScope ["script", "k", "cell"] ["script", "k"] (defScope s__law_fount) := ⟨rfl, rfl, rfl, by decide +kernel, rfl, by decide +kernel, by decide +kernel⟩
abbrev N__law_sip : List Str := ["fount", "many", "found", "mixed"]
theorem sc__law_sip : FnScope ["fount", "many", "found", "mixed"] ["fount", "many"] (defScope s__law_sip) := ⟨rfl, rfl, rfl, by decide +kernel, rfl, by decide +kernel, by decide +kernel⟩
abbrev N__law_sizes : List Str := ["fount", "many", "wide", "leasts", "sizes", "least_here", "more", "turn"]
theorem sc__law_sizes : FnScope ["fount", "many", "wide", "leasts", "sizes", "least_here", "more", "turn"] ["fount", "many", "wide"] (defScope s__law_sizes) := ⟨rfl, rfl, rfl, by decide +kernel, rfl, by decide +kernel, by decide +kernel⟩
abbrev N__law_number : List Str := ["fount", "wide", "far"]
theorem sc__law_number : FnScope ["fount", "wide", "far"] ["fount", "wide"] (defScope s__law_number) := ⟨rfl, rfl, rfl, by decide +kernel, rfl, by decide +kernel, by decide +kernel⟩
abbrev N__law_drawn : List Str := ["fount", "many", "wide", "found", "one", "way", "turn", "number_here", "spot"]
theorem sc__law_drawn : FnScope ["fount", "many", "wide", "found", "one", "way", "turn", "number_here", "spot"] ["fount", "many", "wide"] (defScope s__law_drawn) := ⟨rfl, rfl, rfl, by decide +kernel, rfl, by decide +kernel, by decide +kernel⟩
abbrev N_is_int : List Str := ["value"]
theorem sc_is_int : FnScope ["value"] ["value"] (defScope s_is_int) := ⟨rfl, rfl, rfl, by decide +kernel, rfl, by decide +kernel, by decide +kernel⟩
abbrev N_are_sizes : List Str := ["value", "size"]
theorem sc_are_sizes : FnScope ["value", "size"] ["value"] (defScope s_are_sizes) := ⟨rfl, rfl, rfl, by decide +kernel, rfl, by decide +kernel, by decide +kernel⟩
abbrev N_frees_of : List Str := ["sizes", "leasts", "size", "least"]
theorem sc_frees_of : FnScope ["sizes", "leasts", "size", "least"] ["sizes", "leasts"] (defScope s_frees_of) := ⟨rfl, rfl, rfl, by decide +kernel, rfl, by decide +kernel, by decide +kernel⟩
abbrev N_check_sizes : List Str := ["sizes", "leasts"]
theorem sc_check_sizes : FnScope ["sizes", "leasts"] ["sizes", "leasts"] (defScope s_check_sizes) := ⟨rfl, rfl, rfl, by decide +kernel, rfl, by decide +kernel, by decide +kernel⟩
abbrev N_is_drag : List Str := ["value", "many", "index", "number"]
theorem sc_is_drag : FnScope ["value", "many", "index", "number"] ["value", "many"] (defScope s_is_drag) := ⟨rfl, rfl, rfl, by decide +kernel, rfl, by decide +kernel, by decide +kernel⟩
abbrev N_check_drags : List Str := ["drags", "many", "drag"]
theorem sc_check_drags : FnScope ["drags", "many", "drag"] ["drags", "many"] (defScope s_check_drags) := ⟨rfl, rfl, rfl, by decide +kernel, rfl, by decide +kernel, by decide +kernel⟩
abbrev N_have_one_divider : List Str := ["drags", "index", "_"]
theorem sc_have_one_divider : FnScope ["drags", "index", "_"] ["drags"] (defScope s_have_one_divider) := ⟨rfl, rfl, rfl, by decide +kernel, rfl, by decide +kernel, by decide +kernel⟩
abbrev N_check_directions : List Str := ["drags", "numbers", "_", "number"]
theorem sc_check_directions : FnScope ["drags", "numbers", "_", "number"] ["drags"] (defScope s_check_directions) := ⟨rfl, rfl, rfl, by decide +kernel, rfl, by decide +kernel, by decide +kernel⟩
abbrev N_limited : List Str := ["value", "least", "most"]
theorem sc_limited : FnScope ["value", "least", "most"] ["value", "least", "most"] (defScope s_limited) := ⟨rfl, rfl, rfl, by decide +kernel, rfl, by decide +kernel, by decide +kernel⟩
abbrev N_path_of : List Str := ["height", "numbers", "top", "path", "number"]
theorem sc_path_of : FnScope ["height", "numbers", "top", "path", "number"] ["height", "numbers", "top"] (defScope s_path_of) := ⟨rfl, rfl, rfl, by decide +kernel, rfl, by decide +kernel, by decide +kernel⟩
abbrev N_swung : List Str := ["heights", "top", "index", "numbers", "times", "first", "start", "low", "high", "path", "ahead", "height"]
theorem sc_swung : FnScope ["heights", "top", "index", "numbers", "times", "first", "start", "low", "high", "path", "ahead", "height"] ["heights", "top", "index", "numbers", "times"] (defScope s_swung) := ⟨rfl, rfl, rfl, by decide +kernel, rfl, by decide +kernel, by decide +kernel⟩
abbrev N_seen_from_behind : List Str := ["heights", "top", "height"]
theorem sc_seen_from_behind : FnScope ["heights", "top", "height"] ["heights", "top"] (defScope s_seen_from_behind) := ⟨rfl, rfl, rfl, by decide +kernel, rfl, by decide +kernel, by decide +kernel⟩
abbrev N_rows_of : List Str := ["drags", "many", "rows", "index", "number", "lifted", "at", "more", "old", "new"]
theorem sc_rows_of : FnScope ["drags", "many", "rows", "index", "number", "lifted", "at", "more", "old", "new"] ["drags", "many"] (defScope s_rows_of) := ⟨rfl, rfl, rfl, by decide +kernel, rfl, by decide +kernel, by decide +kernel⟩
abbrev N_one_behind_other : List Str := ["first", "second", "j", "row", "i", "k"]
theorem sc_one_behind_other : FnScope ["first", "second", "j", "row", "i", "k"] ["first", "second"] (defScope s_one_behind_other) := ⟨rfl, rfl, rfl, by decide +kernel, rfl, by decide +kernel, by decide +kernel⟩
abbrev N_many_times : List Str := ["rows", "times", "found"]
theorem sc_many_times : FnScope ["rows", "times", "found"] ["rows", "times"] (defScope s_many_times) := ⟨rfl, rfl, rfl, by decide +kernel, rfl, by decide +kernel, by decide +kernel⟩
abbrev N_lifted_by : List Str := ["heights", "top", "drags", "times", "rows", "row", "more", "height"]
theorem sc_lifted_by : FnScope ["heights", "top", "drags", "times", "rows", "row", "more", "height"] ["heights", "top", "drags", "times"] (defScope s_lifted_by) := ⟨rfl, rfl, rfl, by decide +kernel, rfl, by decide +kernel, by decide +kernel⟩
abbrev N_lowered_by : List Str := ["heights", "top", "drags", "times", "last", "turned", "index", "number"]
theorem sc_lowered_by : FnScope ["heights", "top", "drags", "times", "last", "turned", "index", "number"] ["heights", "top", "drags", "times"] (defScope s_lowered_by) := ⟨rfl, rfl, rfl, by decide +kernel, rfl, by decide +kernel, by decide +kernel⟩
abbrev N_repeated_heights : List Str := ["heights", "top", "drags", "times", "numbers", "_", "number"]
theorem sc_repeated_heights : FnScope ["heights", "top", "drags", "times", "numbers", "_", "number"] ["heights", "top", "drags", "times"] (defScope s_repeated_heights) := ⟨rfl, rfl, rfl, by decide +kernel, rfl, by decide +kernel, by decide +kernel⟩
abbrev N_heights_of : List Str := ["sizes", "leasts", "frees", "index"]
theorem sc_heights_of : FnScope ["sizes", "leasts", "frees", "index"] ["sizes", "leasts"] (defScope s_heights_of) := ⟨rfl, rfl, rfl, by decide +kernel, rfl, by decide +kernel, by decide +kernel⟩
abbrev N_sizes_with : List Str := ["heights", "leasts", "total", "ends", "at", "least"]
theorem sc_sizes_with : FnScope ["heights", "leasts", "total", "ends", "at", "least"] ["heights", "leasts", "total"] (defScope s_sizes_with) := ⟨rfl, rfl, rfl, by decide +kernel, rfl, by decide +kernel, by decide +kernel⟩
abbrev N_repeated : List Str := ["sizes", "leasts", "drags", "times", "heights"]
theorem sc_repeated : FnScope ["sizes", "leasts", "drags", "times", "heights"] ["sizes", "leasts", "drags", "times"] (defScope s_repeated) := ⟨rfl, rfl, rfl, by decide +kernel, rfl, by decide +kernel, by decide +kernel⟩
abbrev N_check_index : List Str := ["index", "many"]
theorem sc_check_index : FnScope ["index", "many"] ["index", "many"] (defScope s_check_index) := ⟨rfl, rfl, rfl, by decide +kernel, rfl, by decide +kernel, by decide +kernel⟩
abbrev N_taken_to : List Str := ["heights", "index", "height", "other"]
theorem sc_taken_to : FnScope ["heights", "index", "height", "other"] ["heights", "index", "height"] (defScope s_taken_to) := ⟨rfl, rfl, rfl, by decide +kernel, rfl, by decide +kernel, by decide +kernel⟩
abbrev N_dragged : List Str := ["sizes", "leasts", "index", "number", "heights", "height"]
theorem sc_dragged : FnScope ["sizes", "leasts", "index", "number", "heights", "height"] ["sizes", "leasts", "index", "number"] (defScope s_dragged) := ⟨rfl, rfl, rfl, by decide +kernel, rfl, by decide +kernel, by decide +kernel⟩
abbrev N__law_right : List Str := ["fount", "sizes", "leasts", "drags_here", "many", "told", "factor", "wide", "great", "behind", "here", "spot", "number_here", "row", "size_here", "least_here"]
theorem sc__law_right : FnScope ["fount", "sizes", "leasts", "drags_here", "many", "told", "factor", "wide", "great", "behind", "here", "spot", "number_here", "row", "size_here", "least_here"] ["fount", "sizes", "leasts", "drags_here", "many"] (defScope s__law_right) := ⟨rfl, rfl, rfl, by decide +kernel, rfl, by decide +kernel, by decide +kernel⟩
abbrev N__law_sums_right : List Str := ["fount", "sizes", "leasts", "drags_here", "many", "parts", "spot", "number_here", "part"]
theorem sc__law_sums_right : FnScope ["fount", "sizes", "leasts", "drags_here", "many", "parts", "spot", "number_here", "part"] ["fount", "sizes", "leasts", "drags_here", "many"] (defScope s__law_sums_right) := ⟨rfl, rfl, rfl, by decide +kernel, rfl, by decide +kernel, by decide +kernel⟩
abbrev N_law : List Str := ["script", "k", "fount", "most", "wide", "many", "sizes", "leasts", "drags_here", "times_here", "spot", "number_here"]
theorem sc_law : FnScope ["script", "k", "fount", "most", "wide", "many", "sizes", "leasts", "drags_here", "times_here", "spot", "number_here"] ["script"] (defScope s_law) := ⟨rfl, rfl, rfl, by decide +kernel, rfl, by decide +kernel, by decide +kernel⟩
/-! ### the readings over data -/
def nmsOf : Nat → List Str
  | _ => []
section
/-- _law_fount(script, k); slots 0:script 1:k 2:cell -/
def z__law_fount (K : PySem.W.Frag) (C : CI) : ZS := zSeq (zAsg (zC (.int 0)) (zgName 2))
    (zSeq (zIfS (zTest (zOp (zI0 fun i j => .bl (decide (i < j))) (zVar 1) (zCB zLen (zCons (zVar 0) (zNil))))) (zAsg (zOp zIx (zVar 0) (zVar 1)) (zgName 2)) (zNext))
    (zRet (zLstC (zCons (zCB zMax2 (zCons (zC (.int 0)) (zCons (zOp (zI0 fun i j => .int (i - j)) (zVar 2) (zOp (zI CPow fun i j => .int (i ^ j.toNat)) (zC (.int 10)) (zC (.int 18)))) (zNil)))) (zCons (zOp (zI0 fun i j => .int (i + j)) (zOp (zI MulOk fun i j => .int (i * j)) (zOp (zI (fun _ j => 0 < j) fun i j => .int (i % j)) (zVar 2) (zOp (zI0 fun i j => .int (i + j)) (zOp (zI CPow fun i j => .int (i ^ j.toNat)) (zC (.int 10)) (zC (.int 38))) (zC (.int 133)))) (zC (.int 256))) (zVar 1)) (zCons (zC (.int 0)) (zNil)))))))
def W__law_fount (K : PySem.W.Frag) (C : CI) : ZRC := fun ds Δ P => ds.length = 2 ∧ z__law_fount K C { nx := fun _ Δ' => P .non Δ', rt := P } (startZ ["script", "k", "cell"] ds) Δ
/-- _law_sip(fount, many); slots 0:fount 1:many 2:found 3:mixed -/
def z__law_sip (K : PySem.W.Frag) (C : CI) : ZS := zSeq (zIfS (zTest (zOp (zI0 fun i j => .bl (decide (j < i))) (zOp zIx (zVar 0) (zC (.int 0))) (zC (.int 0)))) (zSeq (zAsg (zOp (zI (fun _ j => 0 < j) fun i j => .int (i % j)) (zOp zIx (zVar 0) (zC (.int 0))) (zVar 1)) (zgName 2))
    (zSeq (zAsg (zOp (zI CDivW fun i j => .int (i / j)) (zOp zIx (zVar 0) (zC (.int 0))) (zVar 1)) (zgSub (zVar 0) (zC (.int 0))))
    (zRet (zVar 2)))) (zNext))
    (zSeq (zAsg (zOp (zI0 fun i j => .int (i + j)) (zOp zIx (zVar 0) (zC (.int 2))) (zC (.int 1))) (zgSub (zVar 0) (zC (.int 2))))
    (zSeq (zAsg (zOp (zI (fun _ j => 0 < j) fun i j => .int (i % j)) (zOp (zI CPowW fun i j => .int (i ^ j.toNat)) (zOp (zI0 fun i j => .int (i + j)) (zOp zIx (zVar 0) (zC (.int 1))) (zOp (zI MulOk fun i j => .int (i * j)) (zC (.int 122949823)) (zOp zIx (zVar 0) (zC (.int 2))))) (zC (.int 3))) (zOp (zI0 fun i j => .int (i + j)) (zOp (zI CPow fun i j => .int (i ^ j.toNat)) (zC (.int 10)) (zC (.int 43))) (zC (.int 57)))) (zgName 3))
    (zSeq (zAsg (zOp (zI (fun _ j => 0 < j) fun i j => .int (i % j)) (zOp (zI CPowW fun i j => .int (i ^ j.toNat)) (zOp (zI0 fun i j => .int (i + j)) (zVar 3) (zOp (zI MulOk fun i j => .int (i * j)) (zC (.int 67867979)) (zOp zIx (zVar 0) (zC (.int 2))))) (zC (.int 3))) (zOp (zI0 fun i j => .int (i + j)) (zOp (zI CPow fun i j => .int (i ^ j.toNat)) (zC (.int 10)) (zC (.int 41))) (zC (.int 109)))) (zgName 3))
    (zRet (zOp (zI (fun _ j => 0 < j) fun i j => .int (i % j)) (zOp (zI CDivW fun i j => .int (i / j)) (zVar 3) (zC (.int 131071))) (zVar 1))))))
def W__law_sip (K : PySem.W.Frag) (C : CI) : ZRC := fun ds Δ P => ds.length = 2 ∧ z__law_sip K C { nx := fun _ Δ' => P .non Δ', rt := P } (startZ ["fount", "many", "found", "mixed"] ds) Δ
/-- _law_sizes(fount, many, wide); slots 0:fount 1:many 2:wide 3:leasts 4:sizes 5:least_here 6:more 7:turn -/
def z__law_sizes (K : PySem.W.Frag) (C : CI) : ZS := zSeq (zAsg (zLc (ziR1 (zCons (zVar 1) (zNil))) (zgName 7) (zYes) (zOp zIx (zLst (zCons (zC (.int 0)) (zCons (zCall (W__law_sip K C) [] (zCons (zVar 0) (zCons (zC (.int 9)) (zNil)))) (zCons (zCall (W__law_sip K C) [] (zCons (zVar 0) (zCons (zOp (zI0 fun i j => .int (i + j)) (zOp (zI CDivW fun i j => .int (i / j)) (zVar 2) (zC (.int 2))) (zC (.int 1))) (zNil)))) (zNil))))) (zCall (W__law_sip K C) [] (zCons (zVar 0) (zCons (zC (.int 3)) (zNil))))) [7]) (zgName 3))
    (zSeq (zAsg (zLstC (zNil)) (zgName 4))
    (zSeq (zFor (ziList (zVar 3)) (zgName 5) (zSeq (zAsg (zOp zIx (zLst (zCons (zC (.int 0)) (zCons (zCall (W__law_sip K C) [] (zCons (zVar 0) (zCons (zC (.int 9)) (zNil)))) (zCons (zCall (W__law_sip K C) [] (zCons (zVar 0) (zCons (zOp (zI0 fun i j => .int (i + j)) (zOp (zI CDivW fun i j => .int (i / j)) (zVar 2) (zC (.int 2))) (zC (.int 1))) (zNil)))) (zNil))))) (zCall (W__law_sip K C) [] (zCons (zVar 0) (zCons (zC (.int 3)) (zNil))))) (zgName 6))
    (zDrop (zAppend (zVar 4) (zCons (zOp (zI0 fun i j => .int (i + j)) (zVar 5) (zVar 6)) (zNil))))))
    (zRet (zTup (zCons (zVar 4) (zCons (zVar 3) (zNil)))))))
def W__law_sizes (K : PySem.W.Frag) (C : CI) : ZRC := fun ds Δ P => ds.length = 3 ∧ z__law_sizes K C { nx := fun _ Δ' => P .non Δ', rt := P } (startZ ["fount", "many", "wide", "leasts", "sizes", "least_here", "more", "turn"] ds) Δ
/-- _law_number(fount, wide); slots 0:fount 1:wide 2:far -/
def z__law_number (K : PySem.W.Frag) (C : CI) : ZS := zSeq (zAsg (zOp zIx (zLst (zCons (zC (.int 1)) (zCons (zCall (W__law_sip K C) [] (zCons (zVar 0) (zCons (zC (.int 5)) (zNil)))) (zCons (zCall (W__law_sip K C) [] (zCons (zVar 0) (zCons (zC (.int 30)) (zNil)))) (zCons (zCall (W__law_sip K C) [] (zCons (zVar 0) (zCons (zOp (zI0 fun i j => .int (i + j)) (zVar 1) (zC (.int 1))) (zNil)))) (zNil)))))) (zCall (W__law_sip K C) [] (zCons (zVar 0) (zCons (zC (.int 4)) (zNil))))) (zgName 2))
    (zRet (zOp (zI MulOk fun i j => .int (i * j)) (zVar 2) (zOp zIx (zLst (zCons (zC (.int 1)) (zCons (zUn zNeg (zC (.int 1))) (zNil)))) (zCall (W__law_sip K C) [] (zCons (zVar 0) (zCons (zC (.int 2)) (zNil)))))))
def W__law_number (K : PySem.W.Frag) (C : CI) : ZRC := fun ds Δ P => ds.length = 2 ∧ z__law_number K C { nx := fun _ Δ' => P .non Δ', rt := P } (startZ ["fount", "wide", "far"] ds) Δ
/-- _law_drawn(fount, many, wide); slots 0:fount 1:many 2:wide 3:found 4:one 5:way 6:turn 7:number_here 8:spot -/
def z__law_drawn (K : PySem.W.Frag) (C : CI) : ZS := zSeq (zPar3 3 4 5 (zCons (zLstC (zNil)) (zCons (zCall (W__law_sip K C) [] (zCons (zVar 0) (zCons (zOp (zI0 fun i j => .int (i - j)) (zVar 1) (zC (.int 1))) (zNil)))) (zCons (zCall (W__law_sip K C) [] (zCons (zVar 0) (zCons (zC (.int 3)) (zNil)))) (zNil)))))
    (zSeq (zFor (ziR1 (zCons (zOp (zI0 fun i j => .int (i + j)) (zC (.int 1)) (zCall (W__law_sip K C) [] (zCons (zVar 0) (zCons (zC (.int 5)) (zNil))))) (zNil))) (zgName 6) (zSeq (zAsg (zCall (W__law_number K C) [] (zCons (zVar 0) (zCons (zOp zIx (zLst (zCons (zC (.int 9)) (zCons (zVar 2) (zNil)))) (zCall (W__law_sip K C) [] (zCons (zVar 0) (zCons (zC (.int 2)) (zNil))))) (zNil)))) (zgName 7))
    (zSeq (zAsg (zIf (zTest (zOp zEqD (zVar 5) (zC (.int 0)))) (zVar 4) (zCall (W__law_sip K C) [] (zCons (zVar 0) (zCons (zOp (zI0 fun i j => .int (i - j)) (zVar 1) (zC (.int 1))) (zNil))))) (zgName 8))
    (zDrop (zAppend (zVar 3) (zCons (zTup (zCons (zVar 8) (zCons (zOp zIx (zLst (zCons (zVar 7) (zCons (zCB zAbs (zCons (zVar 7) (zNil))) (zCons (zOp (zI0 fun i j => .int (i - j)) (zC (.int 0)) (zCB zAbs (zCons (zVar 7) (zNil)))) (zNil))))) (zVar 5)) (zNil)))) (zNil)))))))
    (zRet (zVar 3)))
def W__law_drawn (K : PySem.W.Frag) (C : CI) : ZRC := fun ds Δ P => ds.length = 3 ∧ z__law_drawn K C { nx := fun _ Δ' => P .non Δ', rt := P } (startZ ["fount", "many", "wide", "found", "one", "way", "turn", "number_here", "spot"] ds) Δ
/-- is_int(value); slots 0:value -/
def z_is_int (K : PySem.W.Frag) (C : CI) : ZS := zRet (zAndV (zCB (zIsi K C) (zCons (zVar 0) (zCons (zC (.ty "int")) (zNil)))) (zNotV (zCB (zIsi K C) (zCons (zVar 0) (zCons (zC (.ty "bool")) (zNil))))))
def W_is_int (K : PySem.W.Frag) (C : CI) : ZRC := fun ds Δ P => ds.length = 1 ∧ z_is_int K C { nx := fun _ Δ' => P .non Δ', rt := P } (startZ ["value"] ds) Δ
/-- are_sizes(value); slots 0:value 1:size -/
def z_are_sizes (K : PySem.W.Frag) (C : CI) : ZS := zSeq (zIfS (zOr (zNot (zTest (zCB (zIsi K C) (zCons (zVar 0) (zCons (zC (.ty "list")) (zNil)))))) (zNot (zTest (zChain (zI0 fun i j => .bl (decide (i ≤ j))) (zI0 fun i j => .bl (decide (i ≤ j))) (zC (.int 2)) (zCB zLen (zCons (zVar 0) (zNil))) (zC (.int 40)))))) (zRet (zC (.bl false))) (zNext))
    (zRet (zCB zAll (zCons (zLc (ziList (zVar 0)) (zgName 1) (zYes) (zAndV (zCall (W_is_int K C) [] (zCons (zVar 1) (zNil))) (zOp (zI0 fun i j => .bl (decide (j ≤ i))) (zVar 1) (zC (.int 0)))) [1]) (zNil))))
def W_are_sizes (K : PySem.W.Frag) (C : CI) : ZRC := fun ds Δ P => ds.length = 1 ∧ z_are_sizes K C { nx := fun _ Δ' => P .non Δ', rt := P } (startZ ["value", "size"] ds) Δ
/-- frees_of(sizes, leasts); slots 0:sizes 1:leasts 2:size 3:least -/
def z_frees_of (K : PySem.W.Frag) (C : CI) : ZS := zRet (zLc (ziZip (zCons (zVar 0) (zCons (zVar 1) (zNil)))) (zgTup 2 (zgCons (zgName 2) (zgCons (zgName 3) (zgNil)))) (zYes) (zOp (zI0 fun i j => .int (i - j)) (zVar 2) (zVar 3)) [2, 3])
def W_frees_of (K : PySem.W.Frag) (C : CI) : ZRC := fun ds Δ P => ds.length = 2 ∧ z_frees_of K C { nx := fun _ Δ' => P .non Δ', rt := P } (startZ ["sizes", "leasts", "size", "least"] ds) Δ
/-- check_sizes(sizes, leasts); slots 0:sizes 1:leasts -/
def z_check_sizes (K : PySem.W.Frag) (C : CI) : ZS := zSeq (zIfS (zOr (zNot (zTest (zCall (W_are_sizes K C) [] (zCons (zVar 0) (zNil))))) (zOr (zNot (zTest (zCall (W_are_sizes K C) [] (zCons (zVar 1) (zNil))))) (zTest (zOp zNeD (zCB zLen (zCons (zVar 0) (zNil))) (zCB zLen (zCons (zVar 1) (zNil))))))) (zNever) (zNext))
    (zIfS (zTest (zOp (zI0 fun i j => .bl (decide (i < j))) (zCB zMin1 (zCons (zCall (W_frees_of K C) [] (zCons (zVar 0) (zCons (zVar 1) (zNil)))) (zNil))) (zC (.int 0)))) (zNever) (zNext))
def W_check_sizes (K : PySem.W.Frag) (C : CI) : ZRC := fun ds Δ P => ds.length = 2 ∧ z_check_sizes K C { nx := fun _ Δ' => P .non Δ', rt := P } (startZ ["sizes", "leasts"] ds) Δ
/-- is_drag(value, many); slots 0:value 1:many 2:index 3:number -/
def z_is_drag (K : PySem.W.Frag) (C : CI) : ZS := zSeq (zIfS (zOr (zNot (zTest (zCB (zIsi K C) (zCons (zVar 0) (zCons (zC (.ty "tuple")) (zNil)))))) (zTest (zOp zNeD (zCB zLen (zCons (zVar 0) (zNil))) (zC (.int 2))))) (zRet (zC (.bl false))) (zNext))
    (zSeq (zAsg (zVar 0) (zgTup 2 (zgCons (zgName 2) (zgCons (zgName 3) (zgNil)))))
    (zRet (zAndV (zCall (W_is_int K C) [] (zCons (zVar 2) (zNil))) (zAndV (zChain (zI0 fun i j => .bl (decide (i ≤ j))) (zI0 fun i j => .bl (decide (i < j))) (zC (.int 0)) (zVar 2) (zVar 1)) (zCall (W_is_int K C) [] (zCons (zVar 3) (zNil)))))))
def W_is_drag (K : PySem.W.Frag) (C : CI) : ZRC := fun ds Δ P => ds.length = 2 ∧ z_is_drag K C { nx := fun _ Δ' => P .non Δ', rt := P } (startZ ["value", "many", "index", "number"] ds) Δ
/-- check_drags(drags, many); slots 0:drags 1:many 2:drag -/
def z_check_drags (K : PySem.W.Frag) (C : CI) : ZS := zSeq (zIfS (zOr (zNot (zTest (zCB (zIsi K C) (zCons (zVar 0) (zCons (zC (.ty "list")) (zNil)))))) (zNot (zTest (zChain (zI0 fun i j => .bl (decide (i ≤ j))) (zI0 fun i j => .bl (decide (i ≤ j))) (zC (.int 1)) (zCB zLen (zCons (zVar 0) (zNil))) (zC (.int 40)))))) (zNever) (zNext))
    (zIfS (zNot (zTest (zCB zAll (zCons (zLc (ziList (zVar 0)) (zgName 2) (zYes) (zCall (W_is_drag K C) [] (zCons (zVar 2) (zCons (zVar 1) (zNil)))) [2]) (zNil))))) (zNever) (zNext))
def W_check_drags (K : PySem.W.Frag) (C : CI) : ZRC := fun ds Δ P => ds.length = 2 ∧ z_check_drags K C { nx := fun _ Δ' => P .non Δ', rt := P } (startZ ["drags", "many", "drag"] ds) Δ
/-- have_one_divider(drags); slots 0:drags 1:index 2:_ -/
def z_have_one_divider (K : PySem.W.Frag) (C : CI) : ZS := zRet (zOp zEqD (zLenS (ziList (zVar 0)) (zgTup 2 (zgCons (zgName 1) (zgCons (zgName 2) (zgNil)))) (zYes) (zVar 1) [1, 2]) (zC (.int 1)))
def W_have_one_divider (K : PySem.W.Frag) (C : CI) : ZRC := fun ds Δ P => ds.length = 1 ∧ z_have_one_divider K C { nx := fun _ Δ' => P .non Δ', rt := P } (startZ ["drags", "index", "_"] ds) Δ
/-- check_directions(drags); slots 0:drags 1:numbers 2:_ 3:number -/
def z_check_directions (K : PySem.W.Frag) (C : CI) : ZS := zSeq (zAsg (zLc (ziList (zVar 0)) (zgTup 2 (zgCons (zgName 2) (zgCons (zgName 3) (zgNil)))) (zYes) (zVar 3) [2, 3]) (zgName 1))
    (zIfS (zAnd (zNot (zTest (zCall (W_have_one_divider K C) [] (zCons (zVar 0) (zNil))))) (zTest (zChain (zI0 fun i j => .bl (decide (i < j))) (zI0 fun i j => .bl (decide (i < j))) (zCB zMin1 (zCons (zVar 1) (zNil))) (zC (.int 0)) (zCB zMax1 (zCons (zVar 1) (zNil)))))) (zNever) (zNext))
def W_check_directions (K : PySem.W.Frag) (C : CI) : ZRC := fun ds Δ P => ds.length = 1 ∧ z_check_directions K C { nx := fun _ Δ' => P .non Δ', rt := P } (startZ ["drags", "numbers", "_", "number"] ds) Δ
/-- limited(value, least, most); slots 0:value 1:least 2:most -/
def z_limited (K : PySem.W.Frag) (C : CI) : ZS := zSeq (zIfS (zTest (zOp (zI0 fun i j => .bl (decide (i < j))) (zVar 0) (zVar 1))) (zRet (zVar 1)) (zNext))
    (zSeq (zIfS (zAnd (zTest (zOp zNotN (zVar 2) (zC .non))) (zTest (zOp (zI0 fun i j => .bl (decide (j < i))) (zVar 0) (zVar 2)))) (zRet (zVar 2)) (zNext))
    (zRet (zVar 0)))
def W_limited (K : PySem.W.Frag) (C : CI) : ZRC := fun ds Δ P => ds.length = 3 ∧ z_limited K C { nx := fun _ Δ' => P .non Δ', rt := P } (startZ ["value", "least", "most"] ds) Δ
/-- path_of(height, numbers, top); slots 0:height 1:numbers 2:top 3:path 4:number -/
def z_path_of (K : PySem.W.Frag) (C : CI) : ZS := zSeq (zAsg (zLstC (zCons (zVar 0) (zNil))) (zgName 3))
    (zSeq (zFor (ziList (zVar 1)) (zgName 4) (zDrop (zAppend (zVar 3) (zCons (zCall (W_limited K C) [] (zCons (zOp (zI0 fun i j => .int (i + j)) (zOp zIx (zVar 3) (zUn zNeg (zC (.int 1)))) (zVar 4)) (zCons (zC (.int 0)) (zCons (zVar 2) (zNil))))) (zNil)))))
    (zRet (zVar 3)))
def W_path_of (K : PySem.W.Frag) (C : CI) : ZRC := fun ds Δ P => ds.length = 3 ∧ z_path_of K C { nx := fun _ Δ' => P .non Δ', rt := P } (startZ ["height", "numbers", "top", "path", "number"] ds) Δ
/-- swung(heights, top, index, numbers, times); slots 0:heights 1:top 2:index 3:numbers 4:times 5:first 6:start 7:low 8:high 9:path 10:ahead 11:height -/
def z_swung (K : PySem.W.Frag) (C : CI) : ZS := zSeq (zAsg (zCall (W_path_of K C) [] (zCons (zOp zIx (zVar 0) (zVar 2)) (zCons (zVar 3) (zCons (zVar 1) (zNil))))) (zgName 5))
    (zSeq (zAsg (zOp zIx (zVar 0) (zVar 2)) (zgName 6))
    (zSeq (zIfS (zTest (zOp (zI0 fun i j => .bl (decide (j < i))) (zVar 4) (zC (.int 1)))) (zSeq (zPar 7 8 (zCons (zOp zIx (zCall (W_path_of K C) [] (zCons (zC (.int 0)) (zCons (zVar 3) (zCons (zVar 1) (zNil))))) (zUn zNeg (zC (.int 1)))) (zCons (zOp zIx (zCall (W_path_of K C) [] (zCons (zVar 1) (zCons (zVar 3) (zCons (zVar 1) (zNil))))) (zUn zNeg (zC (.int 1)))) (zNil))))
    (zAsg (zCall (W_limited K C) [] (zCons (zOp (zI0 fun i j => .int (i + j)) (zOp zIx (zVar 5) (zUn zNeg (zC (.int 1)))) (zOp (zI MulOk fun i j => .int (i * j)) (zOp (zI0 fun i j => .int (i - j)) (zVar 4) (zC (.int 2))) (zCB zSum (zCons (zVar 3) (zNil))))) (zCons (zVar 7) (zCons (zVar 8) (zNil))))) (zgName 6))) (zNext))
    (zSeq (zAsg (zOp zCat (zVar 5) (zCall (W_path_of K C) [] (zCons (zVar 6) (zCons (zVar 3) (zCons (zVar 1) (zNil)))))) (zgName 9))
    (zSeq (zAsg (zLc (ziList (zSl (zVar 0) zNoPart (zPart (zVar 2)))) (zgName 11) (zYes) (zCB zMin2 (zCons (zVar 11) (zCons (zCB zMin1 (zCons (zVar 9) (zNil))) (zNil)))) [11]) (zgName 10))
    (zRet (zOp zCat (zOp zCat (zVar 10) (zLst (zCons (zOp zIx (zVar 9) (zUn zNeg (zC (.int 1)))) (zNil)))) (zLc (ziList (zSl (zVar 0) (zPart (zOp (zI0 fun i j => .int (i + j)) (zVar 2) (zC (.int 1)))) zNoPart)) (zgName 11) (zYes) (zCB zMax2 (zCons (zVar 11) (zCons (zCB zMax1 (zCons (zVar 9) (zNil))) (zNil)))) [11])))))))
def W_swung (K : PySem.W.Frag) (C : CI) : ZRC := fun ds Δ P => ds.length = 5 ∧ z_swung K C { nx := fun _ Δ' => P .non Δ', rt := P } (startZ ["heights", "top", "index", "numbers", "times", "first", "start", "low", "high", "path", "ahead", "height"] ds) Δ
/-- seen_from_behind(heights, top); slots 0:heights 1:top 2:height -/
def z_seen_from_behind (K : PySem.W.Frag) (C : CI) : ZS := zRet (zLc (ziRev (zVar 0)) (zgName 2) (zYes) (zOp (zI0 fun i j => .int (i - j)) (zVar 1) (zVar 2)) [2])
def W_seen_from_behind (K : PySem.W.Frag) (C : CI) : ZRC := fun ds Δ P => ds.length = 2 ∧ z_seen_from_behind K C { nx := fun _ Δ' => P .non Δ', rt := P } (startZ ["heights", "top", "height"] ds) Δ
/-- rows_of(drags, many); slots 0:drags 1:many 2:rows 3:index 4:number 5:lifted 6:at 7:more 8:old 9:new -/
def z_rows_of (K : PySem.W.Frag) (C : CI) : ZS := zSeq (zAsg (zLcC (ziR1 (zCons (zVar 1) (zNil))) (zgName 6) (zYes) (zOp zRepeat (zLst (zCons (zC (.int 0)) (zNil))) (zOp (zI0 fun i j => .int (i + j)) (zVar 6) (zC (.int 1)))) [6]) (zgName 2))
    (zSeq (zFor (ziList (zVar 0)) (zgTup 2 (zgCons (zgName 3) (zgCons (zgName 4) (zgNil)))) (zSeq (zAsg (zLc (ziList (zOp zIx (zVar 2) (zVar 3))) (zgName 7) (zYes) (zOp (zI0 fun i j => .int (i + j)) (zVar 7) (zVar 4)) [7]) (zgName 5))
    (zFor (ziR2 (zCons (zVar 3) (zCons (zVar 1) (zNil)))) (zgName 6) (zAsg (zOp zCat (zLc (ziZip (zCons (zOp zIx (zVar 2) (zVar 6)) (zCons (zVar 5) (zNil)))) (zgTup 2 (zgCons (zgName 8) (zgCons (zgName 9) (zgNil)))) (zYes) (zCB zMax2 (zCons (zVar 8) (zCons (zVar 9) (zNil)))) [8, 9]) (zSl (zOp zIx (zVar 2) (zVar 6)) (zPart (zOp (zI0 fun i j => .int (i + j)) (zVar 3) (zC (.int 1)))) zNoPart)) (zgSub (zVar 2) (zVar 6))))))
    (zRet (zVar 2)))
def W_rows_of (K : PySem.W.Frag) (C : CI) : ZRC := fun ds Δ P => ds.length = 2 ∧ z_rows_of K C { nx := fun _ Δ' => P .non Δ', rt := P } (startZ ["drags", "many", "rows", "index", "number", "lifted", "at", "more", "old", "new"] ds) Δ
/-- one_behind_other(first, second); slots 0:first 1:second 2:j 3:row 4:i 5:k -/
def z_one_behind_other (K : PySem.W.Frag) (C : CI) : ZS := zRet (zLc (ziEnum (zCons (zVar 1) (zNil))) (zgTup 2 (zgCons (zgName 2) (zgCons (zgName 3) (zgNil)))) (zYes) (zLc (ziR1 (zCons (zOp (zI0 fun i j => .int (i + j)) (zVar 2) (zC (.int 1))) (zNil))) (zgName 4) (zYes) (zCB zMax1 (zCons (zLc (ziR2 (zCons (zVar 4) (zCons (zOp (zI0 fun i j => .int (i + j)) (zVar 2) (zC (.int 1))) (zNil)))) (zgName 5) (zYes) (zOp (zI0 fun i j => .int (i + j)) (zOp zIx (zVar 3) (zVar 5)) (zOp zIx (zOp zIx (zVar 0) (zVar 5)) (zVar 4))) [5]) (zNil))) [4]) [2, 3])
def W_one_behind_other (K : PySem.W.Frag) (C : CI) : ZRC := fun ds Δ P => ds.length = 2 ∧ z_one_behind_other K C { nx := fun _ Δ' => P .non Δ', rt := P } (startZ ["first", "second", "j", "row", "i", "k"] ds) Δ
/-- many_times(rows, times); slots 0:rows 1:times 2:found -/
def z_many_times (K : PySem.W.Frag) (C : CI) : ZS := zSeq (zAsg (zCall (frzM (W_rows_of K C)) [] (zCons (zLst (zNil)) (zCons (zCB zLen (zCons (zVar 0) (zNil))) (zNil)))) (zgName 2))
    (zSeq (zWhile (zTest (zOp (zI0 fun i j => .bl (decide (j < i))) (zVar 1) (zC (.int 0)))) (zSeq (zIfS (zTest (zOp zEqD (zOp (zI (fun _ j => 0 < j) fun i j => .int (i % j)) (zVar 1) (zC (.int 2))) (zC (.int 1)))) (zAsg (zCall (W_one_behind_other K C) [] (zCons (zVar 2) (zCons (zVar 0) (zNil)))) (zgName 2)) (zNext))
    (zSeq (zAsg (zCall (W_one_behind_other K C) [] (zCons (zVar 0) (zCons (zVar 0) (zNil)))) (zgName 0))
    (zAsg (zOp (zI CDivW fun i j => .int (i / j)) (zVar 1) (zC (.int 2))) (zgName 1)))))
    (zRet (zVar 2)))
def W_many_times (K : PySem.W.Frag) (C : CI) : ZRC := fun ds Δ P => ds.length = 2 ∧ z_many_times K C { nx := fun _ Δ' => P .non Δ', rt := P } (startZ ["rows", "times", "found"] ds) Δ
/-- lifted_by(heights, top, drags, times); slots 0:heights 1:top 2:drags 3:times 4:rows 5:row 6:more 7:height -/
def z_lifted_by (K : PySem.W.Frag) (C : CI) : ZS := zSeq (zAsg (zCall (W_many_times K C) [] (zCons (zCall (frzM (W_rows_of K C)) [] (zCons (zVar 2) (zCons (zCB zLen (zCons (zVar 0) (zNil))) (zNil)))) (zCons (zVar 3) (zNil)))) (zgName 4))
    (zRet (zLc (ziList (zVar 4)) (zgName 5) (zYes) (zCB zMin2 (zCons (zVar 1) (zCons (zCB zMax1 (zCons (zLc (ziZip (zCons (zVar 5) (zCons (zVar 0) (zNil)))) (zgTup 2 (zgCons (zgName 6) (zgCons (zgName 7) (zgNil)))) (zYes) (zOp (zI0 fun i j => .int (i + j)) (zVar 6) (zVar 7)) [6, 7]) (zNil))) (zNil)))) [5]))
def W_lifted_by (K : PySem.W.Frag) (C : CI) : ZRC := fun ds Δ P => ds.length = 4 ∧ z_lifted_by K C { nx := fun _ Δ' => P .non Δ', rt := P } (startZ ["heights", "top", "drags", "times", "rows", "row", "more", "height"] ds) Δ
/-- lowered_by(heights, top, drags, times); slots 0:heights 1:top 2:drags 3:times 4:last 5:turned 6:index 7:number -/
def z_lowered_by (K : PySem.W.Frag) (C : CI) : ZS := zSeq (zAsg (zOp (zI0 fun i j => .int (i - j)) (zCB zLen (zCons (zVar 0) (zNil))) (zC (.int 1))) (zgName 4))
    (zSeq (zAsg (zLc (ziList (zVar 2)) (zgTup 2 (zgCons (zgName 6) (zgCons (zgName 7) (zgNil)))) (zYes) (zTup (zCons (zOp (zI0 fun i j => .int (i - j)) (zVar 4) (zVar 6)) (zCons (zUn zNeg (zVar 7)) (zNil)))) [6, 7]) (zgName 5))
    (zRet (zCall (W_seen_from_behind K C) [] (zCons (zCall (W_lifted_by K C) [] (zCons (zCall (W_seen_from_behind K C) [] (zCons (zVar 0) (zCons (zVar 1) (zNil)))) (zCons (zVar 1) (zCons (zVar 5) (zCons (zVar 3) (zNil)))))) (zCons (zVar 1) (zNil))))))
def W_lowered_by (K : PySem.W.Frag) (C : CI) : ZRC := fun ds Δ P => ds.length = 4 ∧ z_lowered_by K C { nx := fun _ Δ' => P .non Δ', rt := P } (startZ ["heights", "top", "drags", "times", "last", "turned", "index", "number"] ds) Δ
/-- repeated_heights(heights, top, drags, times); slots 0:heights 1:top 2:drags 3:times 4:numbers 5:_ 6:number -/
def z_repeated_heights (K : PySem.W.Frag) (C : CI) : ZS := zSeq (zAsg (zLc (ziList (zVar 2)) (zgTup 2 (zgCons (zgName 5) (zgCons (zgName 6) (zgNil)))) (zYes) (zVar 6) [5, 6]) (zgName 4))
    (zSeq (zIfS (zTest (zCall (W_have_one_divider K C) [] (zCons (zVar 2) (zNil)))) (zRet (zCall (W_swung K C) [] (zCons (zVar 0) (zCons (zVar 1) (zCons (zOp zIx (zOp zIx (zVar 2) (zC (.int 0))) (zC (.int 0))) (zCons (zVar 4) (zCons (zVar 3) (zNil)))))))) (zNext))
    (zSeq (zIfS (zTest (zOp (zI0 fun i j => .bl (decide (i < j))) (zCB zMin1 (zCons (zVar 4) (zNil))) (zC (.int 0)))) (zRet (zCall (W_lowered_by K C) [] (zCons (zVar 0) (zCons (zVar 1) (zCons (zVar 2) (zCons (zVar 3) (zNil))))))) (zNext))
    (zRet (zCall (W_lifted_by K C) [] (zCons (zVar 0) (zCons (zVar 1) (zCons (zVar 2) (zCons (zVar 3) (zNil)))))))))
def W_repeated_heights (K : PySem.W.Frag) (C : CI) : ZRC := fun ds Δ P => ds.length = 4 ∧ z_repeated_heights K C { nx := fun _ Δ' => P .non Δ', rt := P } (startZ ["heights", "top", "drags", "times", "numbers", "_", "number"] ds) Δ
/-- heights_of(sizes, leasts); slots 0:sizes 1:leasts 2:frees 3:index -/
def z_heights_of (K : PySem.W.Frag) (C : CI) : ZS := zSeq (zAsg (zCall (W_frees_of K C) [] (zCons (zVar 0) (zCons (zVar 1) (zNil)))) (zgName 2))
    (zRet (zLc (ziR1 (zCons (zOp (zI0 fun i j => .int (i - j)) (zCB zLen (zCons (zVar 2) (zNil))) (zC (.int 1))) (zNil))) (zgName 3) (zYes) (zCB zSum (zCons (zSl (zVar 2) zNoPart (zPart (zOp (zI0 fun i j => .int (i + j)) (zVar 3) (zC (.int 1))))) (zNil))) [3]))
def W_heights_of (K : PySem.W.Frag) (C : CI) : ZRC := fun ds Δ P => ds.length = 2 ∧ z_heights_of K C { nx := fun _ Δ' => P .non Δ', rt := P } (startZ ["sizes", "leasts", "frees", "index"] ds) Δ
/-- sizes_with(heights, leasts, total); slots 0:heights 1:leasts 2:total 3:ends 4:at 5:least -/
def z_sizes_with (K : PySem.W.Frag) (C : CI) : ZS := zSeq (zAsg (zOp zCat (zOp zCat (zLst (zCons (zC (.int 0)) (zNil))) (zVar 0)) (zLst (zCons (zOp (zI0 fun i j => .int (i - j)) (zVar 2) (zCB zSum (zCons (zVar 1) (zNil)))) (zNil)))) (zgName 3))
    (zRet (zLcC (ziEnum (zCons (zVar 1) (zNil))) (zgTup 2 (zgCons (zgName 4) (zgCons (zgName 5) (zgNil)))) (zYes) (zOp (zI0 fun i j => .int (i - j)) (zOp (zI0 fun i j => .int (i + j)) (zVar 5) (zOp zIx (zVar 3) (zOp (zI0 fun i j => .int (i + j)) (zVar 4) (zC (.int 1))))) (zOp zIx (zVar 3) (zVar 4))) [4, 5]))
def W_sizes_with (K : PySem.W.Frag) (C : CI) : ZRC := fun ds Δ P => ds.length = 3 ∧ z_sizes_with K C { nx := fun _ Δ' => P .non Δ', rt := P } (startZ ["heights", "leasts", "total", "ends", "at", "least"] ds) Δ
/-- repeated(sizes, leasts, drags, times); slots 0:sizes 1:leasts 2:drags 3:times 4:heights -/
def z_repeated (K : PySem.W.Frag) (C : CI) : ZS := zSeq (zDrop (zCall (W_check_sizes K C) [] (zCons (zVar 0) (zCons (zVar 1) (zNil)))))
    (zSeq (zDrop (zCall (W_check_drags K C) [] (zCons (zVar 2) (zCons (zOp (zI0 fun i j => .int (i - j)) (zCB zLen (zCons (zVar 0) (zNil))) (zC (.int 1))) (zNil)))))
    (zSeq (zIfS (zOr (zNot (zTest (zCall (W_is_int K C) [] (zCons (zVar 3) (zNil))))) (zNot (zTest (zChain (zI0 fun i j => .bl (decide (i ≤ j))) (zI0 fun i j => .bl (decide (i ≤ j))) (zC (.int 0)) (zVar 3) (zC (.int 1000000000000000000000000000000)))))) (zNever) (zNext))
    (zSeq (zDrop (zCall (W_check_directions K C) [] (zCons (zVar 2) (zNil))))
    (zSeq (zIfS (zTest (zOp (zI0 fun i j => .bl (decide (j < i))) (zCB zLen (zCons (zVar 0) (zNil))) (zC (.int 12)))) (zNever) (zNext))
    (zSeq (zIfS (zTest (zOp zEqD (zVar 3) (zC (.int 0)))) (zRet (zCB zListC (zCons (zVar 0) (zNil)))) (zNext))
    (zSeq (zAsg (zCall (W_repeated_heights K C) [] (zCons (zCall (W_heights_of K C) [] (zCons (zVar 0) (zCons (zVar 1) (zNil)))) (zCons (zCB zSum (zCons (zCall (W_frees_of K C) [] (zCons (zVar 0) (zCons (zVar 1) (zNil)))) (zNil))) (zCons (zVar 2) (zCons (zVar 3) (zNil)))))) (zgName 4))
    (zRet (zCall (W_sizes_with K C) [] (zCons (zVar 4) (zCons (zVar 1) (zCons (zCB zSum (zCons (zVar 0) (zNil))) (zNil))))))))))))
def W_repeated (K : PySem.W.Frag) (C : CI) : ZRC := fun ds Δ P => ds.length = 4 ∧ z_repeated K C { nx := fun _ Δ' => P .non Δ', rt := P } (startZ ["sizes", "leasts", "drags", "times", "heights"] ds) Δ
/-- check_index(index, many); slots 0:index 1:many -/
def z_check_index (K : PySem.W.Frag) (C : CI) : ZS := zIfS (zOr (zNot (zTest (zCall (W_is_int K C) [] (zCons (zVar 0) (zNil))))) (zNot (zTest (zChain (zI0 fun i j => .bl (decide (i ≤ j))) (zI0 fun i j => .bl (decide (i < j))) (zC (.int 0)) (zVar 0) (zVar 1))))) (zNever) (zNext)
def W_check_index (K : PySem.W.Frag) (C : CI) : ZRC := fun ds Δ P => ds.length = 2 ∧ z_check_index K C { nx := fun _ Δ' => P .non Δ', rt := P } (startZ ["index", "many"] ds) Δ
/-- taken_to(heights, index, height); slots 0:heights 1:index 2:height 3:other -/
def z_taken_to (K : PySem.W.Frag) (C : CI) : ZS := zSeq (zIfS (zTest (zOp (zI0 fun i j => .bl (decide (j < i))) (zVar 2) (zOp zIx (zVar 0) (zVar 1)))) (zRet (zOp zCat (zSl (zVar 0) zNoPart (zPart (zVar 1))) (zLc (ziList (zSl (zVar 0) (zPart (zVar 1)) zNoPart)) (zgName 3) (zYes) (zCB zMax2 (zCons (zVar 3) (zCons (zVar 2) (zNil)))) [3]))) (zNext))
    (zRet (zOp zCat (zLc (ziList (zSl (zVar 0) zNoPart (zPart (zOp (zI0 fun i j => .int (i + j)) (zVar 1) (zC (.int 1)))))) (zgName 3) (zYes) (zCB zMin2 (zCons (zVar 3) (zCons (zVar 2) (zNil)))) [3]) (zSl (zVar 0) (zPart (zOp (zI0 fun i j => .int (i + j)) (zVar 1) (zC (.int 1)))) zNoPart)))
def W_taken_to (K : PySem.W.Frag) (C : CI) : ZRC := fun ds Δ P => ds.length = 3 ∧ z_taken_to K C { nx := fun _ Δ' => P .non Δ', rt := P } (startZ ["heights", "index", "height", "other"] ds) Δ
/-- dragged(sizes, leasts, index, number); slots 0:sizes 1:leasts 2:index 3:number 4:heights 5:height -/
def z_dragged (K : PySem.W.Frag) (C : CI) : ZS := zSeq (zDrop (zCall (W_check_sizes K C) [] (zCons (zVar 0) (zCons (zVar 1) (zNil)))))
    (zSeq (zDrop (zCall (W_check_index K C) [] (zCons (zVar 2) (zCons (zOp (zI0 fun i j => .int (i - j)) (zCB zLen (zCons (zVar 0) (zNil))) (zC (.int 1))) (zNil)))))
    (zSeq (zIfS (zNot (zTest (zCall (W_is_int K C) [] (zCons (zVar 3) (zNil))))) (zNever) (zNext))
    (zSeq (zAsg (zCall (W_heights_of K C) [] (zCons (zVar 0) (zCons (zVar 1) (zNil)))) (zgName 4))
    (zSeq (zAsg (zCall (W_limited K C) [] (zCons (zOp (zI0 fun i j => .int (i + j)) (zOp zIx (zVar 4) (zVar 2)) (zVar 3)) (zCons (zC (.int 0)) (zCons (zCB zSum (zCons (zCall (W_frees_of K C) [] (zCons (zVar 0) (zCons (zVar 1) (zNil)))) (zNil))) (zNil))))) (zgName 5))
    (zRet (zCall (W_sizes_with K C) [] (zCons (zCall (W_taken_to K C) [] (zCons (zVar 4) (zCons (zVar 2) (zCons (zVar 5) (zNil))))) (zCons (zVar 1) (zCons (zCB zSum (zCons (zVar 0) (zNil))) (zNil))))))))))
def W_dragged (K : PySem.W.Frag) (C : CI) : ZRC := fun ds Δ P => ds.length = 4 ∧ z_dragged K C { nx := fun _ Δ' => P .non Δ', rt := P } (startZ ["sizes", "leasts", "index", "number", "heights", "height"] ds) Δ
/-- _law_right(fount, sizes, leasts, drags_here, many); slots 0:fount 1:sizes 2:leasts 3:drags_here 4:many 5:told 6:factor 7:wide 8:great 9:behind 10:here 11:spot 12:number_here 13:row 14:size_here 15:least_here -/
def z__law_right (K : PySem.W.Frag) (C : CI) : ZS := zSeq (zAsg (zCallBC (W_repeated K C) (zCons (zVar 1) (zCons (zVar 2) (zCons (zVar 3) (zCons (zVar 4) (zNil)))))) (zgName 5))
    (zSeq (zIfS (zTest (zOp zNeD (zCallBC (W_repeated K C) (zCons (zVar 1) (zCons (zVar 2) (zCons (zOp zRepeat (zVar 3) (zC (.int 2))) (zCons (zOp (zI CDivW fun i j => .int (i / j)) (zVar 4) (zC (.int 2))) (zNil)))))) (zCallBC (W_repeated K C) (zCons (zVar 1) (zCons (zVar 2) (zCons (zVar 3) (zCons (zOp (zI MulOk fun i j => .int (i * j)) (zOp (zI CDivW fun i j => .int (i / j)) (zVar 4) (zC (.int 2))) (zC (.int 2))) (zNil)))))))) (zRet (zC (.bl false))) (zNext))
    (zSeq (zAsg (zOp (zI0 fun i j => .int (i + j)) (zC (.int 1)) (zCall (W__law_sip K C) [] (zCons (zVar 0) (zCons (zOp (zI CPow fun i j => .int (i ^ j.toNat)) (zC (.int 10)) (zC (.int 20))) (zNil))))) (zgName 6))
    (zSeq (zAsg (zLc (ziList (zVar 3)) (zgTup 2 (zgCons (zgName 11) (zgCons (zgName 12) (zgNil)))) (zYes) (zTup (zCons (zVar 11) (zCons (zOp (zI MulOk fun i j => .int (i * j)) (zVar 12) (zVar 6)) (zNil)))) [11, 12]) (zgName 7))
    (zSeq (zAsg (zLc (ziTup (zTup (zCons (zVar 1) (zCons (zVar 2) (zNil))))) (zgName 13) (zYes) (zLendL (zLcC (ziList (zVar 13)) (zgName 14) (zYes) (zOp (zI MulOk fun i j => .int (i * j)) (zVar 14) (zVar 6)) [14])) [13]) (zgName 8))
    (zSeq (zIfS (zTest (zOp zNeD (zCallBC (W_repeated K C) (zCons (zOp zIx (zVar 8) (zC (.int 0))) (zCons (zOp zIx (zVar 8) (zC (.int 1))) (zCons (zVar 7) (zCons (zVar 4) (zNil)))))) (zLendL (zLcC (ziList (zVar 5)) (zgName 14) (zYes) (zOp (zI MulOk fun i j => .int (i * j)) (zVar 14) (zVar 6)) [14])))) (zRet (zC (.bl false))) (zNext))
    (zSeq (zAsg (zLc (ziList (zVar 3)) (zgTup 2 (zgCons (zgName 11) (zgCons (zgName 12) (zgNil)))) (zYes) (zTup (zCons (zOp (zI0 fun i j => .int (i - j)) (zOp (zI0 fun i j => .int (i - j)) (zCB zLen (zCons (zVar 1) (zNil))) (zC (.int 2))) (zVar 11)) (zCons (zOp (zI0 fun i j => .int (i - j)) (zC (.int 0)) (zVar 12)) (zNil)))) [11, 12]) (zgName 9))
    (zSeq (zIfS (zOr (zTest (zOp zNeD (zCallBC (W_repeated K C) (zCons (zRev (zVar 1)) (zCons (zRev (zVar 2)) (zCons (zVar 9) (zCons (zVar 4) (zNil)))))) (zRev (zVar 5)))) (zTest (zOp zNeD (zCB zSum (zCons (zVar 5) (zNil))) (zCB zSum (zCons (zVar 1) (zNil)))))) (zRet (zC (.bl false))) (zNext))
    (zSeq (zIfS (zTest (zOp zNeD (zLendL (zLcC (ziZip (zCons (zVar 5) (zCons (zVar 2) (zNil)))) (zgTup 2 (zgCons (zgName 14) (zgCons (zgName 15) (zgNil)))) (zTest (zOp (zI0 fun i j => .bl (decide (i < j))) (zVar 14) (zVar 15))) (zC (.int 1)) [14, 15])) (zLst (zNil)))) (zRet (zC (.bl false))) (zNext))
    (zSeq (zAsg (zCB zList (zCons (zVar 5) (zNil))) (zgName 10))
    (zSeq (zFor (ziList (zVar 3)) (zgTup 2 (zgCons (zgName 11) (zgCons (zgName 12) (zgNil)))) (zAsg (zCallBC (W_dragged K C) (zCons (zVar 10) (zCons (zVar 2) (zCons (zVar 11) (zCons (zVar 12) (zNil)))))) (zgName 10)))
    (zSeq (zIfS (zTest (zOp zNeD (zCallBC (W_repeated K C) (zCons (zVar 1) (zCons (zVar 2) (zCons (zVar 3) (zCons (zOp (zI0 fun i j => .int (i + j)) (zVar 4) (zC (.int 1))) (zNil)))))) (zVar 10))) (zRet (zC (.bl false))) (zNext))
    (zRet (zOrV (zOp zNeD (zVar 10) (zVar 5)) (zOp zEqD (zCallBC (W_repeated K C) (zCons (zVar 1) (zCons (zVar 2) (zCons (zVar 3) (zCons (zOp (zI CPow fun i j => .int (i ^ j.toNat)) (zC (.int 10)) (zC (.int 30))) (zNil)))))) (zVar 5)))))))))))))))
def W__law_right (K : PySem.W.Frag) (C : CI) : ZRC := fun ds Δ P => ds.length = 5 ∧ z__law_right K C { nx := fun _ Δ' => P .non Δ', rt := P } (startZ ["fount", "sizes", "leasts", "drags_here", "many", "told", "factor", "wide", "great", "behind", "here", "spot", "number_here", "row", "size_here", "least_here"] ds) Δ
/-- _law_sums_right(fount, sizes, leasts, drags_here, many); slots 0:fount 1:sizes 2:leasts 3:drags_here 4:many 5:parts 6:spot 7:number_here 8:part -/
def z__law_sums_right (K : PySem.W.Frag) (C : CI) : ZS := zSeq (zAsg (zLst (zNil)) (zgName 5))
    (zSeq (zFor (ziList (zVar 3)) (zgTup 2 (zgCons (zgName 6) (zgCons (zgName 7) (zgNil)))) (zSeq (zAsg (zOp (zI MulOk fun i j => .int (i * j)) (zCall (W__law_sip K C) [] (zCons (zVar 0) (zCons (zOp (zI0 fun i j => .int (i + j)) (zCB zAbs (zCons (zVar 7) (zNil))) (zC (.int 1))) (zNil)))) (zIf (zTest (zOp (zI0 fun i j => .bl (decide (j < i))) (zVar 7) (zC (.int 0)))) (zC (.int 1)) (zUn zNeg (zC (.int 1))))) (zgName 8))
    (zAsg (zOp zCat (zVar 5) (zLst (zCons (zTup (zCons (zVar 6) (zCons (zVar 8) (zNil)))) (zCons (zTup (zCons (zVar 6) (zCons (zOp (zI0 fun i j => .int (i - j)) (zVar 7) (zVar 8)) (zNil)))) (zNil))))) (zgName 5))))
    (zRet (zOp zEqD (zCallBC (W_repeated K C) (zCons (zVar 1) (zCons (zVar 2) (zCons (zVar 5) (zCons (zVar 4) (zNil)))))) (zCallBC (W_repeated K C) (zCons (zVar 1) (zCons (zVar 2) (zCons (zVar 3) (zCons (zVar 4) (zNil)))))))))
def W__law_sums_right (K : PySem.W.Frag) (C : CI) : ZRC := fun ds Δ P => ds.length = 5 ∧ z__law_sums_right K C { nx := fun _ Δ' => P .non Δ', rt := P } (startZ ["fount", "sizes", "leasts", "drags_here", "many", "parts", "spot", "number_here", "part"] ds) Δ
/-- law(script); slots 0:script 1:k 2:fount 3:most 4:wide 5:many 6:sizes 7:leasts 8:drags_here 9:times_here 10:spot 11:number_here -/
def z_law (K : PySem.W.Frag) (C : CI) : ZS := zSeq (zFor (ziR1 (zCons (zCB zMax2 (zCons (zC (.int 1)) (zCons (zCB zMin2 (zCons (zC (.int 5)) (zCons (zCB zLen (zCons (zVar 0) (zNil))) (zNil)))) (zNil)))) (zNil))) (zgName 1) (zSeq (zAsg (zCall (W__law_fount K C) [] (zCons (zVar 0) (zCons (zVar 1) (zNil)))) (zgName 2))
    (zFor (ziList (zLst (zCons (zTup (zCons (zC (.int 5)) (zCons (zC (.int 40)) (zNil)))) (zCons (zTup (zCons (zOp zIx (zLst (zCons (zC (.int 12)) (zCons (zC (.int 6)) (zNil)))) (zCB zMin2 (zCons (zVar 1) (zCons (zC (.int 1)) (zNil))))) (zCons (zOp (zI CPow fun i j => .int (i ^ j.toNat)) (zC (.int 10)) (zC (.int 28))) (zNil)))) (zNil))))) (zgTup 2 (zgCons (zgName 3) (zgCons (zgName 4) (zgNil)))) (zSeq (zAsg (zOp (zI0 fun i j => .int (i + j)) (zC (.int 2)) (zCall (W__law_sip K C) [] (zCons (zVar 2) (zCons (zOp (zI0 fun i j => .int (i - j)) (zVar 3) (zC (.int 1))) (zNil))))) (zgName 5))
    (zSeq (zAsg (zCall (W__law_sizes K C) [] (zCons (zVar 2) (zCons (zVar 5) (zCons (zVar 4) (zNil))))) (zgTup 2 (zgCons (zgName 6) (zgCons (zgName 7) (zgNil)))))
    (zSeq (zAsg (zCall (frzM (W__law_drawn K C)) [] (zCons (zVar 2) (zCons (zVar 5) (zCons (zVar 4) (zNil))))) (zgName 8))
    (zSeq (zAsg (zOp zIx (zLst (zCons (zCall (W__law_sip K C) [] (zCons (zVar 2) (zCons (zC (.int 9)) (zNil)))) (zCons (zCall (W__law_sip K C) [] (zCons (zVar 2) (zCons (zOp (zI CPow fun i j => .int (i ^ j.toNat)) (zC (.int 10)) (zC (.int 30))) (zNil)))) (zNil)))) (zCall (W__law_sip K C) [] (zCons (zVar 2) (zCons (zC (.int 2)) (zNil))))) (zgName 9))
    (zSeq (zIfS (zNot (zTest (zCall (W__law_right K C) [] (zCons (zVar 2) (zCons (zVar 6) (zCons (zVar 7) (zCons (zVar 8) (zCons (zVar 9) (zNil))))))))) (zRet (zC (.bl false))) (zNext))
    (zSeq (zIfS (zNot (zTest (zCall (W__law_sums_right K C) [] (zCons (zVar 2) (zCons (zVar 6) (zCons (zVar 7) (zCons (zVar 8) (zCons (zVar 9) (zNil))))))))) (zRet (zC (.bl false))) (zNext))
    (zSeq (zAsg (zOp zIx (zVar 8) (zC (.int 0))) (zgTup 2 (zgCons (zgName 10) (zgCons (zgName 11) (zgNil)))))
    (zIfS (zTest (zOp zNeD (zCallBC (W_repeated K C) (zCons (zVar 6) (zCons (zVar 7) (zCons (zLst (zCons (zTup (zCons (zVar 10) (zCons (zVar 11) (zNil)))) (zNil))) (zCons (zC (.int 1)) (zNil)))))) (zCallBC (W_dragged K C) (zCons (zVar 6) (zCons (zVar 7) (zCons (zVar 10) (zCons (zVar 11) (zNil)))))))) (zRet (zC (.bl false))) (zNext))))))))))))
    (zRet (zC (.bl true)))
def W_law (K : PySem.W.Frag) (C : CI) : ZRC := fun ds Δ P => ds.length = 1 ∧ z_law K C { nx := fun _ Δ' => P .non Δ', rt := P } (startZ ["script", "k", "fount", "most", "wide", "many", "sizes", "leasts", "drags_here", "times_here", "spot", "number_here"] ds) Δ
end
end Bx

namespace Bx
open PySem PySem.Spec PyProof.Rows L2 Z
local macro_rules | `(tactic| walk_at "zz") => `(tactic| simp only [zSeq, zAsg, zRet, zRetN, zIfS, zNext, zDrop, zPar, zPar3, zVar, zC, zOp, zUn, zNeg, zI0, zI, zTest, zAnd, zOr, zNot, zAndV, zOrV, zNotV, zIf, zNil, zCons, zTup, zLst, zLstC, zgName, zgTup, zgCons, zgNil, zgSub, startZ, zCall, zCB, zChain, zIsN, zNotN, zNever,
  zAddA, zMulA, zRepeat, zCat, zIx, seqD, lstD, zMax2, zMin2, zAbs, zLen, zSum, zGcd, zInt, zYes, zBreak, zCont, zMin1, zMax1, zList, zListC, zLcC, zLc, ziR1, ziR2, ziList, ziTup, ziZip, ziEnum, wipeZ, zFor, zSl, zPart, zNoPart, zAppend, zLstR1, zLstR2, zCallBC, zCallBF,
  at0, at1, at2, at3, at4, ix2_3, ix0_3, isNon_int, isNon_non, Bool.not_true, Bool.not_false,
  List.map_cons, List.map_nil, List.length_cons, List.length_nil, List.replicate_succ, List.replicate_zero, List.append_nil, List.nil_append, List.cons_append, List.getElem?_cons_zero, List.getElem?_cons_succ, List.set_cons_zero, List.set_cons_succ,
  Option.some.injEq, D.int.injEq, D.bl.injEq, D.tup.injEq, D.lst.injEq, D.str.injEq, D.cell.injEq, O.lst.injEq, reduceCtorEq, exists_eq_left', exists_eq_left, false_and, and_false, true_and, and_true, exists_false, or_false, false_or, exists_and_left, exists_eq', exists_and_right, List.cons.injEq, and_assoc, dec_not, dec_yes, nd_t, nd_f, t_t, t_f, f_t, f_f, true_implies, false_implies, implies_true, and_self, Nat.reduceAdd, Nat.reduceLeDiff, Nat.reduceSub, Nat.reduceLT])
local macro_rules | `(tactic| walk_at "zy") => `(tactic| try simp only [Option.some.injEq, D.int.injEq, D.bl.injEq, D.tup.injEq, D.lst.injEq, D.str.injEq, D.cell.injEq, O.lst.injEq, reduceCtorEq, exists_eq_left', exists_eq_left, false_and, and_false, true_and, and_true, exists_false, or_false, false_or, exists_and_left, exists_eq', exists_and_right, List.cons.injEq, and_assoc, dec_not, dec_yes, nd_t, nd_f, t_t, t_f, f_t, f_f, true_implies, false_implies, implies_true, and_self])
/-! ### the fount: three ints in a cell, asked at most c times -/
def Fnt (Δ : Store) (n : Nat) (c : Int) : Prop := ∃ x y z : Int, Δ[n]? = some (.lst [.int x, .int y, .int z]) ∧ 0 ≤ x ∧ 0 ≤ y ∧ y < 2 ^ 150 ∧ 0 ≤ z ∧ z ≤ c
structure Off (n : Nat) (Δ Δ' : Store) : Prop where
  len : Δ'.length = Δ.length
  at_ : ∀ m, m ≠ n → Δ'[m]? = Δ[m]?
theorem Off.refl (n : Nat) (Δ : Store) : Off n Δ Δ := ⟨rfl, fun _ _ => rfl⟩
theorem Off.trans {n : Nat} {Δ Δ1 Δ2 : Store} (a : Off n Δ Δ1) (b : Off n Δ1 Δ2) : Off n Δ Δ2 := ⟨b.len.trans a.len, fun m h => (b.at_ m h).trans (a.at_ m h)⟩
theorem Off.set (n : Nat) (Δ : Store) (o : O) : Off n Δ (Δ.set n o) := ⟨by rw [List.length_set], fun m h => by rw [List.getElem?_set_ne (Ne.symm h)]⟩
theorem set_get {Δ : Store} {n : Nat} {o : O} (h : Δ[n]? = some o) (o' : O) : (Δ.set n o')[n]? = some o' := List.getElem?_set_self (List.getElem?_eq_some_iff.mp h).1
theorem Fnt.mono {Δ : Store} {n : Nat} {c c' : Int} (h : Fnt Δ n c) (hc : c ≤ c') : Fnt Δ n c' := by
  obtain ⟨x, y, z, e, h1, h2, h3, h4, h5⟩ := h
  exact ⟨x, y, z, e, h1, h2, h3, h4, by omega⟩
theorem Fnt.app {Δ : Store} {n : Nat} {c : Int} (h : Fnt Δ n c) (r : Store) : Fnt (Δ ++ r) n c := by
  obtain ⟨x, y, z, e, h1⟩ := h
  exact ⟨x, y, z, by rw [List.getElem?_append_left (List.getElem?_eq_some_iff.mp e).1]; exact e, h1⟩
theorem Fnt.lt {Δ : Store} {n : Nat} {c : Int} (h : Fnt Δ n c) : n < Δ.length := by
  obtain ⟨x, y, z, e, h1⟩ := h
  exact (List.getElem?_eq_some_iff.mp e).1
theorem pow3 {i : Int} (h : i.natAbs < 2 ^ 200) : CPowW i 3 := by
  have q := PySem.Flt.log2_lt_of (show 0 < 200 by decide) h
  refine ⟨by decide, ?_⟩
  omega
theorem pow_ok {a b : Int} (h1 : 0 ≤ b) (h2 : b ≤ 1000000) (h3 : a.natAbs < 2 ^ 64) : CPow a b := ⟨h1, h2, h3⟩
theorem natAbs_lt {i : Int} {n : Nat} (h0 : 0 ≤ i) (h : i < (2 : Int) ^ n) : i.natAbs < 2 ^ n := by
  have : ((2 ^ n : Nat) : Int) = (2 : Int) ^ n := by simp
  omega
theorem sm {i : Int} (h0 : 0 ≤ i) (h : i ≤ 10 ^ 31) : i.natAbs < 2 ^ 8000 := Nat.lt_of_lt_of_le (natAbs_lt (n := 110) h0 (Int.lt_of_le_of_lt h (by decide))) (Nat.pow_le_pow_right (by decide) (by decide))
theorem divk {i : Int} {j : Int} (h0 : 0 < j) (h1 : j < 2 ^ 200) : CDivW i j := wide_div (b := 8000) h0 (Nat.lt_of_lt_of_le (natAbs_lt (n := 200) (by omega) h1) (Nat.pow_le_pow_right (by decide) (by decide))) (by decide) (by decide)
section
variable {K : PySem.W.Frag} {C : CI}
theorem sip_ok {n : Nat} {many c : Int} {Δ : Store} {P : D → Store → Prop} (hb : Fnt Δ n c) (hc : c ≤ 10 ^ 20) (h1 : 1 ≤ many) (h2 : many.natAbs < 2 ^ 8000)
    (h : ∀ k Δ', 0 ≤ k → k < many → Fnt Δ' n (c + 1) → Off n Δ Δ' → P (.int k) Δ') : W__law_sip K C [.cell n, .int many] Δ P := by
  obtain ⟨x, y, z, e, hx, hy0, hy1, hz0, hz1⟩ := hb
  have es := set_get e
  have es2 : ∀ o o', ((Δ.set n o).set n o')[n]? = some o' := fun o o' => set_get (es o) o'
  have dv : CDivW x many := wide_div (b := 8000) (by omega) h2 (by decide) (by decide)
  unfold W__law_sip z__law_sip
  walk_at "zz"
  simp only [e, es, List.length_cons, List.length_nil, Nat.reduceAdd, ix2_3, ix0_3, at0, at1, at2, Option.some.injEq, exists_eq_left', List.set_cons_zero, List.set_cons_succ, O.lst.injEq, exists_eq_left, D.int.injEq, D.cell.injEq]
  refine ⟨fun hpos => ⟨by omega, dv, ?_⟩, fun hpos => ?_⟩
  · exact h _ _ (Int.emod_nonneg _ (by omega)) (Int.emod_lt_of_pos _ (by omega)) ⟨x / many, y, z, by rw [es], Int.ediv_nonneg hx (by omega), hy0, hy1, hz0, by omega⟩ (Off.set _ _ _)
  · have e43 : (10 : Int) ^ Int.toNat 43 = 10 ^ 43 := rfl
    have e41 : (10 : Int) ^ Int.toNat 41 = 10 ^ 41 := rfl
    rw [e43, e41]
    have b1 : (y + 122949823 * (z + 1)).natAbs < 2 ^ 200 := natAbs_lt (by omega) (by omega)
    generalize (y + 122949823 * (z + 1)) ^ Int.toNat 3 = p1
    have m1 : 0 ≤ p1 % (10 ^ 43 + 57) ∧ p1 % (10 ^ 43 + 57) < 10 ^ 43 + 57 := ⟨Int.emod_nonneg _ (by decide), Int.emod_lt_of_pos _ (by decide)⟩
    generalize p1 % (10 ^ 43 + 57) = q1 at *
    have b2 : (q1 + 67867979 * (z + 1)).natAbs < 2 ^ 200 := natAbs_lt (by omega) (by omega)
    refine ⟨.l (by decide) (by decide), pow3 b1, pow_ok (by decide) (by decide) (by decide), by decide, .l (by decide) (by decide), pow3 b2, pow_ok (by decide) (by decide) (by decide), by decide, divk (by decide) (by decide), by omega, ?_⟩
    exact h _ _ (Int.emod_nonneg _ (by omega)) (Int.emod_lt_of_pos _ (by omega)) ⟨x, y, z + 1, by rw [es], hx, hy0, hy1, by omega, by omega⟩ (Off.set _ _ _)
theorem fount_ok {ns : List Int} {k : Int} {Δ : Store} {P : D → Store → Prop} (k0 : 0 ≤ k) (k1 : k ≤ 100) (h : ∀ Δ' o, Δ' = Δ ++ [o] → Fnt Δ' Δ.length 0 → P (.cell Δ.length) Δ') : W__law_fount K C [.scr ns, .int k] Δ P := by
  have fin : ∀ cell : Int, P (.cell Δ.length) (Δ ++ [.lst [.int (if cell - 10 ^ 18 > 0 then cell - 10 ^ 18 else 0), .int (cell % (10 ^ 38 + 133) * 256 + k), .int 0]]) := fun cell => by
    refine h _ _ rfl ⟨if cell - 10 ^ 18 > 0 then cell - 10 ^ 18 else 0, cell % (10 ^ 38 + 133) * 256 + k, 0, ?_, ?_, ?_, ?_, Int.le_refl _, Int.le_refl _⟩
    · rw [List.getElem?_append_right (Nat.le_refl _), Nat.sub_self]
      rfl
    · split <;> omega
    · have := Int.emod_nonneg cell (b := 10 ^ 38 + 133) (by decide)
      omega
    · have := Int.emod_lt_of_pos cell (b := 10 ^ 38 + 133) (by decide)
      omega
  unfold W__law_fount z__law_fount
  walk_at "zz"
  rw [List.length_map]
  refine ⟨fun hk => ?_, fun hk => ?_⟩
  · have hk' : k.toNat < ns.length := by omega
    have ea : atI (ns.map D.int) k = some (.int ns[k.toNat]) := by
      obtain ⟨d, h1, h2⟩ := atN (l := ns.map D.int) (i := k) k0 (by rw [List.length_map]; omega)
      rw [h2]
      rw [List.getElem?_map, List.getElem?_eq_getElem hk'] at h1
      exact h1.symm
    simp only [ea]
    walk_at "zz"
    exact ⟨pow_ok (by decide) (by decide) (by decide), pow_ok (by decide) (by decide) (by decide), by decide, .r (by decide) (by decide), fin _⟩
  · exact ⟨pow_ok (by decide) (by decide) (by decide), pow_ok (by decide) (by decide) (by decide), by decide, .r (by decide) (by decide), fin _⟩
end
end Bx

namespace Bx
open PySem PySem.Spec PyProof.Rows L2 Z
local macro_rules | `(tactic| walk_at "zz") => `(tactic| simp only [zSeq, zAsg, zRet, zRetN, zIfS, zNext, zDrop, zPar, zPar3, zVar, zC, zOp, zUn, zNeg, zI0, zI, zTest, zAnd, zOr, zNot, zAndV, zOrV, zNotV, zIf, zNil, zCons, zTup, zLst, zLstC, zgName, zgTup, zgCons, zgNil, zgSub, startZ, zCall, zCB, zChain, zIsN, zNotN, zNever,
  zAddA, zMulA, zRepeat, zCat, zIx, seqD, lstD, zMax2, zMin2, zAbs, zLen, zSum, zGcd, zInt, zYes, zBreak, zCont, zMin1, zMax1, zList, zListC, zLcC, zLc, ziR1, ziR2, ziList, ziTup, ziZip, ziEnum, wipeZ, zFor, zSl, zPart, zNoPart, zAppend, zLstR1, zLstR2, zCallBC, zCallBF,
  at0, at1, at2, at3, at4, ix2_3, ix0_3, isNon_int, isNon_non, Bool.not_true, Bool.not_false,
  List.map_cons, List.map_nil, List.length_cons, List.length_nil, List.replicate_succ, List.replicate_zero, List.append_nil, List.nil_append, List.cons_append, List.getElem?_cons_zero, List.getElem?_cons_succ, List.set_cons_zero, List.set_cons_succ,
  Option.some.injEq, D.int.injEq, D.bl.injEq, D.tup.injEq, D.lst.injEq, D.str.injEq, D.cell.injEq, O.lst.injEq, reduceCtorEq, exists_eq_left', exists_eq_left, false_and, and_false, true_and, and_true, exists_false, or_false, false_or, exists_and_left, exists_eq', exists_and_right, List.cons.injEq, and_assoc, dec_not, dec_yes, nd_t, nd_f, t_t, t_f, f_t, f_f, true_implies, false_implies, implies_true, and_self, Nat.reduceAdd, Nat.reduceLeDiff, Nat.reduceSub, Nat.reduceLT])
local macro_rules | `(tactic| walk_at "zy") => `(tactic| try simp only [Option.some.injEq, D.int.injEq, D.bl.injEq, D.tup.injEq, D.lst.injEq, D.str.injEq, D.cell.injEq, O.lst.injEq, reduceCtorEq, exists_eq_left', exists_eq_left, false_and, and_false, true_and, and_true, exists_false, or_false, false_or, exists_and_left, exists_eq', exists_and_right, List.cons.injEq, and_assoc, dec_not, dec_yes, nd_t, nd_f, t_t, t_f, f_t, f_f, true_implies, false_implies, implies_true, and_self])
/-! ### lists of isD -/
def isD (s : List Int) : List D := s.map D.int
/-- a list of isD: data, or a cell's content -/
def Ls (Δ : Store) (d : D) (s : List Int) : Prop := d = .lst (isD s) ∨ ∃ n, d = .cell n ∧ Δ[n]? = some (.lst (isD s))
section
variable {K : PySem.W.Frag} {C : CI} {Δ Δ' : Store} {P : D → Store → Prop} {d : D} {s l : List Int}
theorem Ls.seq (h : Ls Δ d s) : seqD Δ d = some (isD s) := by
  rcases h with rfl | ⟨n, rfl, e⟩
  · rfl
  · unfold seqD; simp only [e]
theorem Ls.lst (h : Ls Δ d s) : lstD Δ d = some (isD s) := by
  rcases h with rfl | ⟨n, rfl, e⟩
  · rfl
  · unfold lstD; simp only [e]
theorem Ls.thaw (h : Ls Δ d s) : Z.thaw Δ d = .lst (isD s) := by
  rcases h with rfl | ⟨n, rfl, e⟩
  · rfl
  · unfold Z.thaw; simp only [e]
theorem rdk_ints {k : Nat} : (isD s).map (Z.rdk Δ k) = isD s := by
  unfold isD
  rw [List.map_map]
  congr 1
  funext i
  cases k <;> rfl
theorem Ls.rdk (h : Ls Δ d s) {k : Nat} : Z.rdk Δ (k + 1) d = .lst (isD s) := by
  rcases h with rfl | ⟨n, rfl, e⟩
  · show D.lst _ = _; rw [rdk_ints]
  · unfold Z.rdk; simp only [e]; rw [rdk_ints]
theorem Ls.ty (h : Ls Δ d s) : tyD C Δ d = some (.type "list") := by
  rcases h with rfl | ⟨n, rfl, e⟩
  · rfl
  · unfold tyD; simp only [e]
theorem Ls.app (h : Ls Δ d s) (r : Store) : Ls (Δ ++ r) d s := by
  rcases h with h | ⟨n, h, e⟩
  · exact .inl h
  · exact .inr ⟨n, h, by rw [List.getElem?_append_left (List.getElem?_eq_some_iff.mp e).1]; exact e⟩
theorem Ls.off {m : Nat} (h : Ls Δ d s) (o : Off m Δ Δ') (hn : d ≠ .cell m) : Ls Δ' d s := by
  rcases h with h | ⟨n, rfl, e⟩
  · exact .inl h
  · exact .inr ⟨n, rfl, by rw [o.at_ n fun q => hn (by rw [q])]; exact e⟩
theorem Ls.last : Ls (Δ ++ [.lst (isD s)]) (.cell Δ.length) s := .inr ⟨_, rfl, by rw [List.getElem?_append_right (Nat.le_refl _), Nat.sub_self]; rfl⟩
theorem below_ints : ∀ s : List Int, Z.belowL 0 (isD s) = true
  | [] => rfl
  | i :: s => by
    show (true && Z.belowL 0 (isD s)) = true
    rw [below_ints s]
    rfl
theorem bare_ints : ∀ s : List Int, bareTs (isD s) = true
  | [] => rfl
  | i :: s => by
    show (true && bareTs (isD s)) = true
    rw [bare_ints s]
    rfl
theorem isD_len : (isD s).length = s.length := List.length_map _
theorem ints_get {i : Nat} {x : Int} (h : s[i]? = some x) : (isD s)[i]? = some (.int x) := by unfold isD; rw [List.getElem?_map, h] <;> rfl
theorem atI_nat {α : Type} {xs : List α} {i : Nat} {x : α} (h : xs[i]? = some x) : atI xs (i : Int) = some x := by
  unfold atI ixN
  have := (List.getElem?_eq_some_iff.mp h).1
  rw [if_pos (by omega), if_pos (by omega), Int.toNat_natCast]
  exact h
theorem atI_ints {i : Nat} (h : i < s.length) : atI (isD s) (i : Int) = some (.int (s.getD i 0)) := atI_nat (ints_get (by rw [List.getElem?_eq_getElem h, List.getD_eq_getElem?_getD, List.getElem?_eq_getElem h] <;> rfl))
theorem ixN_nat {n i : Nat} (h : i < n) : ixN n (i : Int) = some i := by
  unfold ixN
  rw [if_pos (by omega), if_pos (by omega), Int.toNat_natCast]
/-! ### types -/
theorem isi_ty {x : D} {a b : String} {r : Bool} (h1 : tyD C Δ x = some (.type a)) (h : kitB a b = some r) (p : P (.bl r) Δ) : zIsi K C [x, .ty b] Δ P :=
  ⟨x, _, _, _, r, rfl, h1, rfl, (fun _ q => nomatch q), kit_ty h, p⟩
theorem isi_ty2 {x : D} {a b c : String} {r1 r2 r : Bool} (h1 : tyD C Δ x = some (.type a)) (h : kitB a b = some r1) (h' : kitB a c = some r2) (hr : (r1 || r2) = r) (p : P (.bl r) Δ) : zIsiT K C [x, .tup [.ty b, .ty c]] Δ P := by
  subst hr
  refine ⟨x, _, _, [.type b, .type c], _, rfl, h1, .cons rfl (.cons rfl .nil), (fun _ q => nomatch q), ?_, p⟩
  cases r1 with
  | true => exact kitAny_cons (kit_ty h) (fun q => nomatch q) fun _ => rfl
  | false => exact kitAny_cons (kit_ty h) (fun _ => kitAny_cons (kit_ty h') (fun q => by rw [q]; rfl) fun q => by rw [q]; rfl) fun q => nomatch q
theorem is_int_ok {i : Int} (p : P (.bl true) Δ) : W_is_int K C [.int i] Δ P := by
  unfold W_is_int z_is_int
  walk_at "zz"
  refine isi_ty rfl (r := true) (by decide +kernel) ?_
  walk_at "zz"
  refine isi_ty rfl (r := false) (by decide +kernel) ?_
  walk_at "zz"
  exact p
/-! ### rows -/
structure Rw (s l : List Int) : Prop where
  len : s.length = l.length
  two : 2 ≤ s.length
  forty : s.length ≤ 40
  l0 : ∀ i ∈ l, 0 ≤ i
  s0 : ∀ i ∈ s, 0 ≤ i
  le : ∀ i, i < s.length → l.getD i 0 ≤ s.getD i 0
theorem are_sizes_ok (h2 : 2 ≤ s.length) (h4 : s.length ≤ 40) (h0 : ∀ i ∈ s, 0 ≤ i) (p : P (.bl true) Δ) : W_are_sizes K C [.lst (isD s)] Δ P := by
  unfold W_are_sizes z_are_sizes
  walk_at "zz"
  refine isi_ty rfl (r := true) (by decide +kernel) ?_
  walk_at "zz"
  rw [isD_len]
  refine ⟨fun _ => ⟨fun q => by omega, fun _ => ?_⟩, fun q => by omega⟩
  unfold isD
  refine comp_map (f := fun i : Int => D.bl (decide (0 ≤ i))) s [] (by simp; omega) (fun i hi Q q => ?_) ?_
  · walk_at "zz"
    refine is_int_ok ?_
    walk_at "zz"
    exact q
  · rw [List.nil_append]
    refine ⟨_, s.map fun i => decide (0 ≤ i), rfl, by show some _ = some _; rw [List.map_map]; rfl, ?_⟩
    have e : (s.map fun i => decide (0 ≤ i)).all id = true := by
      rw [List.all_eq_true]
      intro b hb
      obtain ⟨i, hi, rfl⟩ := List.mem_map.mp hb
      simpa using h0 i hi
    rw [e]
    exact p
end
end Bx

namespace Bx
open PySem PySem.Spec PyProof.Rows L2 Z
local macro_rules | `(tactic| walk_at "zz") => `(tactic| simp only [zSeq, zAsg, zRet, zRetN, zIfS, zNext, zDrop, zPar, zPar3, zVar, zC, zOp, zUn, zNeg, zI0, zI, zTest, zAnd, zOr, zNot, zAndV, zOrV, zNotV, zIf, zNil, zCons, zTup, zLst, zLstC, zgName, zgTup, zgCons, zgNil, zgSub, startZ, zCall, zCB, zChain, zIsN, zNotN, zNever,
  zAddA, zMulA, zRepeat, zCat, zIx, seqD, lstD, zMax2, zMin2, zAbs, zLen, zSum, zGcd, zInt, zYes, zBreak, zCont, zMin1, zMax1, zList, zListC, zLcC, zLc, ziR1, ziR2, ziList, ziTup, ziZip, ziEnum, wipeZ, zFor, zSl, zPart, zNoPart, zAppend, zLstR1, zLstR2, zCallBC, zCallBF,
  at0, at1, at2, at3, at4, ix2_3, ix0_3, isNon_int, isNon_non, Bool.not_true, Bool.not_false,
  List.map_cons, List.map_nil, List.length_cons, List.length_nil, List.replicate_succ, List.replicate_zero, List.append_nil, List.nil_append, List.cons_append, List.getElem?_cons_zero, List.getElem?_cons_succ, List.set_cons_zero, List.set_cons_succ,
  Option.some.injEq, D.int.injEq, D.bl.injEq, D.tup.injEq, D.lst.injEq, D.str.injEq, D.cell.injEq, O.lst.injEq, reduceCtorEq, exists_eq_left', exists_eq_left, false_and, and_false, true_and, and_true, exists_false, or_false, false_or, exists_and_left, exists_eq', exists_and_right, List.cons.injEq, and_assoc, dec_not, dec_yes, nd_t, nd_f, t_t, t_f, f_t, f_f, true_implies, false_implies, implies_true, and_self, Nat.reduceAdd, Nat.reduceLeDiff, Nat.reduceSub, Nat.reduceLT])
local macro_rules | `(tactic| walk_at "zy") => `(tactic| try simp only [Option.some.injEq, D.int.injEq, D.bl.injEq, D.tup.injEq, D.lst.injEq, D.str.injEq, D.cell.injEq, O.lst.injEq, reduceCtorEq, exists_eq_left', exists_eq_left, false_and, and_false, true_and, and_true, exists_false, or_false, false_or, exists_and_left, exists_eq', exists_and_right, List.cons.injEq, and_assoc, dec_not, dec_yes, nd_t, nd_f, t_t, t_f, f_t, f_f, true_implies, false_implies, implies_true, and_self])
/-! ### what the program reckons, over lists of ints -/
def frs (s l : List Int) : List Int := (s.zip l).map fun q => q.1 - q.2
def pre (f : List Int) (j : Nat) : Int := (f.take j).sum
def hts (f : List Int) : List Int := (List.range (f.length - 1)).map fun i => pre f (i + 1)
def lim (v a b : Int) : Int := if v < a then a else if b < v then b else v
def tkn (h : List Int) (k : Nat) (x : Int) : List Int :=
  if h.getD k 0 < x then h.take k ++ (h.drop k).map fun o => if x > o then x else o
  else ((h.take (k + 1)).map fun o => if x < o then x else o) ++ h.drop (k + 1)
def swt (h l : List Int) (total : Int) : List Int := l.zipIdx.map fun q => q.1 + ([0] ++ h ++ [total - l.sum]).getD (q.2 + 1) 0 - ([0] ++ h ++ [total - l.sum]).getD q.2 0
section
variable {K : PySem.W.Frag} {C : CI} {Δ Δ' : Store} {P : D → Store → Prop} {d : D} {s l f : List Int}
theorem frs_len (e : s.length = l.length) : (frs s l).length = s.length := by unfold frs; rw [List.length_map, List.length_zip, ← e, Nat.min_self]
theorem frs_get (e : s.length = l.length) {i : Nat} (h : i < s.length) : (frs s l).getD i 0 = s.getD i 0 - l.getD i 0 := by
  unfold frs
  rw [List.getD_eq_getElem?_getD, List.getD_eq_getElem?_getD, List.getD_eq_getElem?_getD, List.getElem?_map, List.getElem?_eq_getElem h, List.getElem?_eq_getElem (show i < l.length by omega), List.getElem?_zip_eq_some.mpr (show s[i]? = some (s[i], l[i]).1 ∧ l[i]? = some (s[i], l[i]).2 from ⟨List.getElem?_eq_getElem h, List.getElem?_eq_getElem _⟩)]
  rfl
theorem zip_isD : ((isD s).zip (isD l)).map (fun q => D.tup [q.1, q.2]) = (s.zip l).map fun q => D.tup [.int q.1, .int q.2] := by
  unfold isD
  rw [List.zip_map, List.map_map]
  rfl
theorem frees_ok (h4 : s.length ≤ 100) (p : P (.lst (isD (frs s l))) Δ) : W_frees_of K C [.lst (isD s), .lst (isD l)] Δ P := by
  unfold W_frees_of z_frees_of
  walk_at "zz"
  rw [zip_isD]
  refine comp_map (f := fun q : Int × Int => D.int (q.1 - q.2)) (s.zip l) [] (by simp; omega) (fun i hi Q q => ?_) ?_
  · walk_at "zz"
    exact q
  · rw [List.nil_append]
    unfold isD frs at p
    rw [List.map_map] at p
    exact p
theorem cut_to {k : Nat} : Z.cutD (isD f) none (some (k : Int)) = isD (f.take k) := by
  unfold Z.cutD isD
  rw [HT.sIx_none, HT.sIx_nat, List.drop_zero, Nat.sub_zero, List.map_take]
  rw [← List.take_eq_take_min]
theorem cut_from {k : Nat} : Z.cutD (isD f) (some (k : Int)) none = isD (f.drop k) := by
  unfold Z.cutD isD
  rw [HT.sIx_none, HT.sIx_nat, List.map_drop]
  by_cases h : k ≤ (f.map D.int).length
  · rw [Nat.min_eq_left h, List.take_of_length_le]
    rw [List.length_drop]
    omega
  · rw [Nat.min_eq_right (by omega), List.drop_of_length_le (Nat.le_refl _), List.drop_of_length_le (show (f.map D.int).length ≤ k by omega), List.take_nil]
theorem heights_ok (e : s.length = l.length) (h1 : 1 ≤ s.length) (h4 : s.length ≤ 100) (p : P (.lst (isD (hts (frs s l)))) Δ) : W_heights_of K C [.lst (isD s), .lst (isD l)] Δ P := by
  unfold W_heights_of z_heights_of
  walk_at "zz"
  refine frees_ok h4 ?_
  walk_at "zz"
  have fl := frs_len e
  rw [isD_len]
  refine ⟨by omega, by omega, ?_⟩
  have er : rangeD 0 (((frs s l).length : Int) - 1) = (List.range ((frs s l).length - 1)).map fun (i : Nat) => D.int (0 + (i : Int)) := by
    unfold rangeD
    rw [show (((frs s l).length : Int) - 1 - 0).toNat = (frs s l).length - 1 by omega]
  rw [er]
  refine comp_map (f := fun i : Nat => D.int (pre (frs s l) (i + 1))) _ [] (by simp; omega) (fun i hi Q q => ?_) ?_
  · walk_at "zz"
    refine ⟨_, ?_, q⟩
    rw [show (0 + (i : Int) + 1) = ((i + 1 : Nat) : Int) by omega, cut_to]
    rfl
  · rw [List.nil_append]
    unfold isD hts at p
    rw [List.map_map] at p
    exact p
theorem limited_ok {v a b : Int} (p : P (.int (lim v a b)) Δ) : W_limited K C [.int v, .int a, .int b] Δ P := by
  unfold W_limited z_limited
  walk_at "zz"
  unfold lim at p
  refine ⟨fun h => ?_, fun h => ⟨fun h2 => ?_, fun h2 => ?_⟩⟩
  · rw [if_pos h] at p; exact p
  · rw [if_neg h, if_pos h2] at p; exact p
  · rw [if_neg h, if_neg h2] at p; exact p
theorem taken_ok {k : Nat} {x : Int} (hk : k < f.length) (h4 : f.length ≤ 100) (p : P (.lst (isD (tkn f k x))) Δ) : W_taken_to K C [.lst (isD f), .int (k : Int), .int x] Δ P := by
  unfold W_taken_to z_taken_to
  walk_at "zz"
  rw [atI_ints hk]
  walk_at "zz"
  unfold tkn at p
  refine ⟨fun h => ?_, fun h => ?_⟩
  · rw [if_pos h] at p
    rw [cut_to, cut_from]
    unfold isD
    refine comp_map (f := fun o : Int => D.int (if x > o then x else o)) (f.drop k) [] (by simp; omega) (fun i hi Q q => ?_) ?_
    · walk_at "zz"
      exact q
    · rw [List.nil_append]
      refine ⟨_, rfl, by simp; omega, ?_⟩
      unfold isD at p
      rw [List.map_append, List.map_map] at p
      exact p
  · rw [if_neg h] at p
    rw [show ((k : Int) + 1) = ((k + 1 : Nat) : Int) by omega, cut_to, cut_from]
    unfold isD
    refine comp_map (f := fun o : Int => D.int (if x < o then x else o)) (f.take (k + 1)) [] (by simp; omega) (fun i hi Q q => ?_) ?_
    · walk_at "zz"
      exact q
    · rw [List.nil_append]
      refine ⟨_, rfl, by simp; omega, ?_⟩
      unfold isD at p
      rw [List.map_append, List.map_map] at p
      exact p
theorem enum_isD : Z.enumD (isD l) = l.zipIdx.map fun q => D.tup [.int (q.2 : Nat), .int q.1] := by
  unfold Z.enumD isD
  rw [List.zipIdx_map, List.map_map]
  rfl
theorem swt_ok {h : List Int} {total : Int} (hh : h.length + 1 = l.length) (h4 : l.length ≤ 100) (p : P (.cell Δ.length) (Δ ++ [.lst (isD (swt h l total))])) : W_sizes_with K C [.lst (isD h), .lst (isD l), .int total] Δ P := by
  unfold W_sizes_with z_sizes_with
  walk_at "zz"
  refine ⟨by rw [isD_len]; omega, l, rfl, by rw [isD_len]; omega, ?_⟩
  rw [enum_isD]
  have ee : D.int 0 :: (isD h ++ [D.int (total - l.sum)]) = isD ([0] ++ h ++ [total - l.sum]) := by
    unfold isD
    simp
  rw [ee]
  unfold swt at p
  generalize he : [0] ++ h ++ [total - l.sum] = ends at p ⊢
  have hl : ends.length = l.length + 1 := by rw [← he]; simp; omega
  refine comp_map (f := fun q : Int × Nat => D.int (q.1 + ends.getD (q.2 + 1) 0 - ends.getD q.2 0)) l.zipIdx [] (by simp; omega) (fun q hq Q w => ?_) ?_
  · have hi : q.2 < l.length := by
      obtain ⟨x, i⟩ := q
      have := List.mem_zipIdx hq
      simp at this
      omega
    walk_at "zz"
    rw [show ((q.2 : Int) + 1) = ((q.2 + 1 : Nat) : Int) by omega, atI_ints (by omega), atI_ints (by omega)]
    walk_at "zz"
    exact w
  · rw [List.nil_append]
    refine ⟨_, rfl, ?_⟩
    unfold isD at p
    rw [List.map_map] at p
    exact p
end
end Bx

namespace Bx
open PySem PySem.Spec PyProof.Rows L2 Z
local macro_rules | `(tactic| walk_at "zz") => `(tactic| simp only [zSeq, zAsg, zRet, zRetN, zIfS, zNext, zDrop, zPar, zPar3, zVar, zC, zOp, zUn, zNeg, zI0, zI, zTest, zAnd, zOr, zNot, zAndV, zOrV, zNotV, zIf, zNil, zCons, zTup, zLst, zLstC, zgName, zgTup, zgCons, zgNil, zgSub, startZ, zCall, zCB, zChain, zIsN, zNotN, zNever,
  zAddA, zMulA, zRepeat, zCat, zIx, seqD, lstD, zMax2, zMin2, zAbs, zLen, zSum, zGcd, zInt, zYes, zBreak, zCont, zMin1, zMax1, zList, zListC, zLcC, zLc, ziR1, ziR2, ziList, ziTup, ziZip, ziEnum, wipeZ, zFor, zSl, zPart, zNoPart, zAppend, zLstR1, zLstR2, zCallBC, zCallBF,
  at0, at1, at2, at3, at4, ix2_3, ix0_3, isNon_int, isNon_non, Bool.not_true, Bool.not_false,
  List.map_cons, List.map_nil, List.length_cons, List.length_nil, List.replicate_succ, List.replicate_zero, List.append_nil, List.nil_append, List.cons_append, List.getElem?_cons_zero, List.getElem?_cons_succ, List.set_cons_zero, List.set_cons_succ,
  Option.some.injEq, D.int.injEq, D.bl.injEq, D.tup.injEq, D.lst.injEq, D.str.injEq, D.cell.injEq, O.lst.injEq, reduceCtorEq, exists_eq_left', exists_eq_left, false_and, and_false, true_and, and_true, exists_false, or_false, false_or, exists_and_left, exists_eq', exists_and_right, List.cons.injEq, and_assoc, dec_not, dec_yes, nd_t, nd_f, t_t, t_f, f_t, f_f, true_implies, false_implies, implies_true, and_self, Nat.reduceAdd, Nat.reduceLeDiff, Nat.reduceSub, Nat.reduceLT])
local macro_rules | `(tactic| walk_at "zy") => `(tactic| try simp only [Option.some.injEq, D.int.injEq, D.bl.injEq, D.tup.injEq, D.lst.injEq, D.str.injEq, D.cell.injEq, O.lst.injEq, reduceCtorEq, exists_eq_left', exists_eq_left, false_and, and_false, true_and, and_true, exists_false, or_false, false_or, exists_and_left, exists_eq', exists_and_right, List.cons.injEq, and_assoc, dec_not, dec_yes, nd_t, nd_f, t_t, t_f, f_t, f_f, true_implies, false_implies, implies_true, and_self])
/-! ### lists by functions of the place -/
def fl (n : Nat) (g : Nat → Int) : List Int := (List.range n).map g
theorem fl_len {n : Nat} {g : Nat → Int} : (fl n g).length = n := by unfold fl; rw [List.length_map, List.length_range]
theorem fl_get? {n : Nat} {g : Nat → Int} {i : Nat} (h : i < n) : (fl n g)[i]? = some (g i) := by unfold fl; rw [List.getElem?_map, List.getElem?_range h] <;> rfl
theorem fl_get {n : Nat} {g : Nat → Int} {i : Nat} (h : i < n) : (fl n g).getD i 0 = g i := by rw [List.getD_eq_getElem?_getD, fl_get? h]; rfl
theorem fl_of {s : List Int} : s = fl s.length fun i => s.getD i 0 := by
  apply List.ext_getElem?
  intro i
  by_cases h : i < s.length
  · rw [fl_get? h, List.getD_eq_getElem?_getD, List.getElem?_eq_getElem h]; rfl
  · rw [List.getElem?_eq_none (by omega), List.getElem?_eq_none (by rw [fl_len]; omega)]
theorem fl_congr {n : Nat} {g g' : Nat → Int} (h : ∀ i, i < n → g i = g' i) : fl n g = fl n g' := by
  unfold fl
  exact List.map_congr_left fun i hi => h i (List.mem_range.mp hi)
theorem fl_set {n j : Nat} {g : Nat → Int} {x : Int} : (fl n g).set j x = fl n fun i => if i = j then x else g i := by
  apply List.ext_getElem?
  intro i
  by_cases h : i < n
  · rw [fl_get? h]
    by_cases e : i = j
    · subst e
      rw [List.getElem?_set_self (by rw [fl_len]; exact h), if_pos rfl]
    · rw [List.getElem?_set_ne (Ne.symm e), fl_get? h, if_neg e]
  · rw [List.getElem?_eq_none (by rw [List.length_set, fl_len]; omega), List.getElem?_eq_none (by rw [fl_len]; omega)]
theorem isD_set {s : List Int} {j : Nat} {x : Int} : (isD s).set j (.int x) = isD (s.set j x) := by unfold isD; rw [List.map_set]
/-! ### heights -/
theorem pre_0 {f : List Int} : pre f 0 = 0 := rfl
theorem pre_all {f : List Int} : pre f f.length = f.sum := by unfold pre; rw [List.take_of_length_le (Nat.le_refl _)]
theorem pre_succ {f : List Int} {j : Nat} (h : j < f.length) : pre f (j + 1) = pre f j + f.getD j 0 := by
  unfold pre
  rw [List.take_add_one, List.getElem?_eq_getElem h, List.sum_append, List.getD_eq_getElem?_getD, List.getElem?_eq_getElem h]
  simp
theorem hts_len {f : List Int} : (hts f).length = f.length - 1 := by unfold hts; rw [List.length_map, List.length_range]
theorem hts_get {f : List Int} {i : Nat} (h : i + 1 < f.length) : (hts f).getD i 0 = pre f (i + 1) := by
  have := fl_get (n := f.length - 1) (g := fun i => pre f (i + 1)) (i := i) (by omega)
  exact this
theorem sum_frs : ∀ {s l : List Int}, s.length = l.length → (frs s l).sum = s.sum - l.sum
  | [], [], _ => rfl
  | x :: s, y :: l, e => by
    have ih := sum_frs (s := s) (l := l) (by simpa using e)
    unfold frs at ih ⊢
    rw [List.zip_cons_cons, List.map_cons, List.sum_cons, ih, List.sum_cons, List.sum_cons]
    simp only
    omega
  | [], _ :: _, e => by simp at e
  | _ :: _, [], e => by simp at e
/-- the heights of all dividers and both ends, behind a drag to the height x -/
def nwP (f : List Int) (k : Nat) (x : Int) (j : Nat) : Int :=
  if pre f (k + 1) < x then (if j ≤ k then pre f j else if pre f j < x then x else pre f j) else (if j ≤ k + 1 then (if x < pre f j then x else pre f j) else pre f j)
theorem getD_app {a b : List Int} {i : Nat} : (a ++ b).getD i 0 = if i < a.length then a.getD i 0 else b.getD (i - a.length) 0 := by
  rw [List.getD_eq_getElem?_getD, List.getD_eq_getElem?_getD, List.getD_eq_getElem?_getD, List.getElem?_append]
  split <;> rfl
theorem getD_take {a : List Int} {i k : Nat} (h : i < k) : (a.take k).getD i 0 = a.getD i 0 := by
  rw [List.getD_eq_getElem?_getD, List.getD_eq_getElem?_getD, List.getElem?_take, if_pos h]
theorem getD_drop {a : List Int} {i k : Nat} : (a.drop k).getD i 0 = a.getD (k + i) 0 := by
  rw [List.getD_eq_getElem?_getD, List.getD_eq_getElem?_getD, List.getElem?_drop]
theorem getD_map {a : List Int} {g : Int → Int} {i : Nat} (h : i < a.length) : (a.map g).getD i 0 = g (a.getD i 0) := by
  rw [List.getD_eq_getElem?_getD, List.getD_eq_getElem?_getD, List.getElem?_map, List.getElem?_eq_getElem h]
  rfl
theorem tkn_len {h : List Int} {k : Nat} {x : Int} : (tkn h k x).length = h.length := by
  unfold tkn
  split
  · simp; omega
  · simp; omega
theorem tkn_get {h : List Int} {k i : Nat} {x : Int} (hk : k < h.length) (hi : i < h.length) : (tkn h k x).getD i 0 =
    if h.getD k 0 < x then (if i < k then h.getD i 0 else if x > h.getD i 0 then x else h.getD i 0) else (if i < k + 1 then (if x < h.getD i 0 then x else h.getD i 0) else h.getD i 0) := by
  unfold tkn
  split
  · rw [getD_app, List.length_take, Nat.min_eq_left (by omega)]
    split
    · rw [getD_take (by omega)]
    · rw [getD_map (by rw [List.length_drop]; omega), getD_drop, show k + (i - k) = i by omega]
  · rw [getD_app, List.length_map, List.length_take, Nat.min_eq_left (by omega)]
    split
    · rw [getD_map (by rw [List.length_take]; omega), getD_take (by omega)]
    · rw [getD_drop, show k + 1 + (i - (k + 1)) = i by omega]
theorem pre_mono {f : List Int} (h0 : ∀ i, i < f.length → 0 ≤ f.getD i 0) : ∀ {j k : Nat}, j ≤ k → k ≤ f.length → pre f j ≤ pre f k := by
  intro j k hjk
  induction hjk with
  | refl => intro _; exact Int.le_refl _
  | @step m hm ih =>
    intro hk
    have := ih (by omega)
    have e := pre_succ (f := f) (j := m) (by omega)
    have := h0 m (by omega)
    show pre f j ≤ pre f (m + 1)
    omega
theorem ends_get {f : List Int} {k j : Nat} {x : Int} (hk : k + 1 < f.length) (hj : j ≤ f.length) (x0 : 0 ≤ x) (x1 : x ≤ f.sum) : ([0] ++ tkn (hts f) k x ++ [f.sum]).getD j 0 = nwP f k x j := by
  have hl : (tkn (hts f) k x).length = f.length - 1 := by rw [tkn_len, hts_len]
  unfold nwP
  rw [getD_app, List.length_append, hl]
  simp only [List.length_cons, List.length_nil]
  by_cases h0 : j = 0
  · subst h0
    rw [if_pos (by omega)]
    have e : ([0] ++ tkn (hts f) k x).getD 0 0 = 0 := rfl
    rw [e, pre_0, if_pos (Nat.zero_le k), if_pos (Nat.zero_le (k + 1)), if_neg (show ¬ x < 0 by omega), ite_self]
  · by_cases hn : j = f.length
    · subst hn
      rw [if_neg (by omega), pre_all, if_neg (show ¬ f.length ≤ k by omega), if_neg (show ¬ f.length ≤ k + 1 by omega)]
      rw [show f.length - (0 + 1 + (f.length - 1)) = 0 by omega]
      show f.sum = _
      split
      · rw [if_neg (by omega)]
      · rfl
    · rw [if_pos (by omega), getD_app, if_neg (by simp; omega)]
      simp only [List.length_cons, List.length_nil]
      rw [tkn_get (by rw [hts_len]; omega) (by rw [hts_len]; omega), hts_get (by omega), hts_get (by omega), show j - (0 + 1) + 1 = j by omega]
      split
      · by_cases q : j ≤ k
        · rw [if_pos q, if_pos (by omega)]
        · rw [if_neg q, if_neg (by omega)]
      · by_cases q : j ≤ k + 1
        · rw [if_pos q, if_pos (by omega)]
        · rw [if_neg q, if_neg (by omega)]
/-- the sizes behind a drag -/
def drg (s l : List Int) (k : Nat) (num : Int) : List Int :=
  fl s.length fun i => l.getD i 0 + nwP (frs s l) k (lim (pre (frs s l) (k + 1) + num) 0 (frs s l).sum) (i + 1) - nwP (frs s l) k (lim (pre (frs s l) (k + 1) + num) 0 (frs s l).sum) i
theorem frs_nn {s l : List Int} (R : Rw s l) : ∀ i, i < (frs s l).length → 0 ≤ (frs s l).getD i 0 := fun i hi => by
  rw [frs_len R.len] at hi
  rw [frs_get R.len hi]
  have := R.le i hi
  omega
theorem sum_nn {s l : List Int} (R : Rw s l) : 0 ≤ (frs s l).sum := by
  rw [← pre_all]
  have := pre_mono (frs_nn R) (Nat.zero_le _) (Nat.le_refl _)
  rw [pre_0] at this
  exact this
theorem lim_in {v b : Int} (h : 0 ≤ b) : 0 ≤ lim v 0 b ∧ lim v 0 b ≤ b := by
  unfold lim
  split
  · omega
  · split <;> omega
theorem swt_eq {s l : List Int} (R : Rw s l) {k : Nat} (hk : k + 1 < s.length) {num : Int} : swt (tkn (hts (frs s l)) k (lim (pre (frs s l) (k + 1) + num) 0 (frs s l).sum)) l s.sum = drg s l k num := by
  have hx := lim_in (v := pre (frs s l) (k + 1) + num) (sum_nn R)
  have fl' := frs_len R.len
  unfold swt drg
  rw [← sum_frs R.len]
  generalize lim (pre (frs s l) (k + 1) + num) 0 (frs s l).sum = x at *
  apply List.ext_getElem?
  intro i
  by_cases hi : i < s.length
  · have hi2 : i < l.length := by rw [← R.len]; exact hi
    rw [fl_get? hi, List.getElem?_map, List.getElem?_zipIdx, List.getElem?_eq_getElem hi2]
    show some _ = some _
    simp only [Nat.zero_add]
    rw [ends_get (by omega) (by omega) hx.1 hx.2, ends_get (by omega) (by omega) hx.1 hx.2, List.getD_eq_getElem?_getD (l := l), List.getElem?_eq_getElem hi2]
    rfl
  · rw [List.getElem?_eq_none (by rw [List.length_map, List.length_zipIdx, ← R.len]; omega), List.getElem?_eq_none (by rw [fl_len]; omega)]
end Bx

namespace Bx
open PySem PySem.Spec PyProof.Rows L2 Z
local macro_rules | `(tactic| walk_at "zz") => `(tactic| simp only [zSeq, zAsg, zRet, zRetN, zIfS, zNext, zDrop, zPar, zPar3, zVar, zC, zOp, zUn, zNeg, zI0, zI, zTest, zAnd, zOr, zNot, zAndV, zOrV, zNotV, zIf, zNil, zCons, zTup, zLst, zLstC, zgName, zgTup, zgCons, zgNil, zgSub, startZ, zCall, zCB, zChain, zIsN, zNotN, zNever,
  zAddA, zMulA, zRepeat, zCat, zIx, seqD, lstD, zMax2, zMin2, zAbs, zLen, zSum, zGcd, zInt, zYes, zBreak, zCont, zMin1, zMax1, zList, zListC, zLcC, zLc, ziR1, ziR2, ziList, ziTup, ziZip, ziEnum, wipeZ, zFor, zSl, zPart, zNoPart, zAppend, zLstR1, zLstR2, zCallBC, zCallBF,
  at0, at1, at2, at3, at4, ix2_3, ix0_3, isNon_int, isNon_non, Bool.not_true, Bool.not_false,
  List.map_cons, List.map_nil, List.length_cons, List.length_nil, List.replicate_succ, List.replicate_zero, List.append_nil, List.nil_append, List.cons_append, List.getElem?_cons_zero, List.getElem?_cons_succ, List.set_cons_zero, List.set_cons_succ,
  Option.some.injEq, D.int.injEq, D.bl.injEq, D.tup.injEq, D.lst.injEq, D.str.injEq, D.cell.injEq, O.lst.injEq, reduceCtorEq, exists_eq_left', exists_eq_left, false_and, and_false, true_and, and_true, exists_false, or_false, false_or, exists_and_left, exists_eq', exists_and_right, List.cons.injEq, and_assoc, dec_not, dec_yes, nd_t, nd_f, t_t, t_f, f_t, f_f, true_implies, false_implies, implies_true, and_self, Nat.reduceAdd, Nat.reduceLeDiff, Nat.reduceSub, Nat.reduceLT])
local macro_rules | `(tactic| walk_at "zy") => `(tactic| try simp only [Option.some.injEq, D.int.injEq, D.bl.injEq, D.tup.injEq, D.lst.injEq, D.str.injEq, D.cell.injEq, O.lst.injEq, reduceCtorEq, exists_eq_left', exists_eq_left, false_and, and_false, true_and, and_true, exists_false, or_false, false_or, exists_and_left, exists_eq', exists_and_right, List.cons.injEq, and_assoc, dec_not, dec_yes, nd_t, nd_f, t_t, t_f, f_t, f_f, true_implies, false_implies, implies_true, and_self])
section
variable {K : PySem.W.Frag} {C : CI} {Δ Δ' : Store} {P : D → Store → Prop} {d d2 : D} {s l f : List Int}
theorem ne_ints {x y : D} {a b : Int} (h1 : x = .int a) (h2 : y = .int b) (p : P (.bl (!(a == b))) Δ) : zNeD x y Δ P := by
  subst h1 h2
  refine ⟨rfl, rfl, ?_⟩
  exact p
theorem eq_ints {a b : Int} (p : P (.bl (a == b)) Δ) : zEqD (.int a) (.int b) Δ P := ⟨rfl, rfl, p⟩
theorem min_in {m : Int} (R : Rw s l) (h : m ∈ frs s l) : 0 ≤ m := by
  obtain ⟨i, hi, e⟩ := List.getElem_of_mem h
  have := frs_nn R i hi
  rw [List.getD_eq_getElem?_getD, List.getElem?_eq_getElem hi] at this
  rw [← e]
  exact this
theorem frs_ne (R : Rw s l) : frs s l ≠ [] := fun q => by
  have := frs_len R.len
  rw [q] at this
  have := R.two
  simp at *
  omega
theorem check_sizes_ok (R : Rw s l) (p : P .non Δ) : W_check_sizes K C [.lst (isD s), .lst (isD l)] Δ P := by
  unfold W_check_sizes z_check_sizes
  try walk_at "zz"
  refine are_sizes_ok R.two R.forty R.s0 ?_
  try walk_at "zz"
  refine are_sizes_ok (by rw [← R.len]; exact R.two) (by rw [← R.len]; exact R.forty) R.l0 ?_
  try walk_at "zz"
  rw [isD_len, isD_len, R.len]
  refine ne_ints rfl rfl ?_
  rw [beq_self_eq_true]
  try walk_at "zz"
  refine frees_ok (by have := R.forty; omega) ?_
  refine ⟨_, rfl, frs_ne R, fun m hm _ => ?_⟩
  have := min_in R hm
  try walk_at "zz"
  exact ⟨fun q => by omega, fun _ => p⟩
theorem check_index_ok {k many : Int} (h0 : 0 ≤ k) (h1 : k < many) (p : P .non Δ) : W_check_index K C [.int k, .int many] Δ P := by
  unfold W_check_index z_check_index
  try walk_at "zz"
  refine is_int_ok ?_
  try walk_at "zz"
  exact ⟨fun _ => ⟨fun q => by omega, fun _ => p⟩, fun q => by omega⟩
theorem dragged_ok (R : Rw s l) {k : Nat} (hk : k + 1 < s.length) {num : Int} (p : P (.cell Δ.length) (Δ ++ [.lst (isD (drg s l k num))])) : W_dragged K C [.lst (isD s), .lst (isD l), .int (k : Int), .int num] Δ P := by
  have h4 := R.forty
  have fl' := frs_len R.len
  have hh : (hts (frs s l)).length = s.length - 1 := by rw [hts_len, fl']
  unfold W_dragged z_dragged
  try walk_at "zz"
  refine check_sizes_ok R ?_
  try walk_at "zz"
  rw [isD_len]
  refine check_index_ok (by omega) (by omega) ?_
  try walk_at "zz"
  refine is_int_ok ?_
  try walk_at "zz"
  refine heights_ok R.len (by omega) (by omega) ?_
  try walk_at "zz"
  rw [atI_ints (by omega)]
  try walk_at "zz"
  refine frees_ok (by omega) ?_
  refine ⟨_, rfl, ?_⟩
  refine limited_ok ?_
  try walk_at "zz"
  refine taken_ok (by omega) (by omega) ?_
  refine ⟨_, rfl, ?_⟩
  rw [hts_get (by omega)]
  refine swt_ok (by rw [tkn_len, hh, ← R.len]; omega) (by rw [← R.len]; omega) ?_
  rw [swt_eq R hk]
  exact p
end
end Bx

namespace Bx
open PySem PySem.Spec PyProof.Rows L2 Z
local macro_rules | `(tactic| walk_at "zz") => `(tactic| simp only [zSeq, zAsg, zRet, zRetN, zIfS, zNext, zDrop, zPar, zPar3, zVar, zC, zOp, zUn, zNeg, zI0, zI, zTest, zAnd, zOr, zNot, zAndV, zOrV, zNotV, zIf, zNil, zCons, zTup, zLst, zLstC, zgName, zgTup, zgCons, zgNil, zgSub, startZ, zCall, zCB, zChain, zIsN, zNotN, zNever,
  zAddA, zMulA, zRepeat, zCat, zIx, seqD, lstD, zMax2, zMin2, zAbs, zLen, zSum, zGcd, zInt, zYes, zBreak, zCont, zMin1, zMax1, zList, zListC, zLcC, zLc, ziR1, ziR2, ziList, ziTup, ziZip, ziEnum, wipeZ, zFor, zSl, zPart, zNoPart, zAppend, zLstR1, zLstR2, zCallBC, zCallBF,
  at0, at1, at2, at3, at4, ix2_3, ix0_3, isNon_int, isNon_non, Bool.not_true, Bool.not_false,
  List.map_cons, List.map_nil, List.length_cons, List.length_nil, List.replicate_succ, List.replicate_zero, List.append_nil, List.nil_append, List.cons_append, List.getElem?_cons_zero, List.getElem?_cons_succ, List.set_cons_zero, List.set_cons_succ,
  Option.some.injEq, D.int.injEq, D.bl.injEq, D.tup.injEq, D.lst.injEq, D.str.injEq, D.cell.injEq, O.lst.injEq, reduceCtorEq, exists_eq_left', exists_eq_left, false_and, and_false, true_and, and_true, exists_false, or_false, false_or, exists_and_left, exists_eq', exists_and_right, List.cons.injEq, and_assoc, dec_not, dec_yes, nd_t, nd_f, t_t, t_f, f_t, f_f, true_implies, false_implies, implies_true, and_self, Nat.reduceAdd, Nat.reduceLeDiff, Nat.reduceSub, Nat.reduceLT])
local macro_rules | `(tactic| walk_at "zy") => `(tactic| try simp only [Option.some.injEq, D.int.injEq, D.bl.injEq, D.tup.injEq, D.lst.injEq, D.str.injEq, D.cell.injEq, O.lst.injEq, reduceCtorEq, exists_eq_left', exists_eq_left, false_and, and_false, true_and, and_true, exists_false, or_false, false_or, exists_and_left, exists_eq', exists_and_right, List.cons.injEq, and_assoc, dec_not, dec_yes, nd_t, nd_f, t_t, t_f, f_t, f_f, true_implies, false_implies, implies_true, and_self])
theorem seq_cut {t u : ZS} {Ze : ZEnds} {Γ : Z.Env} {Δ : Store} (h : ∀ rest : Z.Env → Store → Prop, rest = u Ze → t { Ze with nx := rest } Γ Δ) : zSeq t u Ze Γ Δ := h _ rfl
section
variable {K : PySem.W.Frag} {C : CI} {Δ Δ' : Store} {P : D → Store → Prop} {d d2 : D} {s l f : List Int}
theorem last_at {o : O} : (Δ ++ [o])[Δ.length]? = some o := by rw [List.getElem?_append_right (Nat.le_refl _), Nat.sub_self]; rfl
theorem set_last {o o' : O} : (Δ ++ [o]).set Δ.length o' = Δ ++ [o'] := by
  rw [List.set_append_right _ _ (Nat.le_refl _), Nat.sub_self]; rfl
/-- the list while the boxes behind k give -/
def upL (s l : List Int) (k : Nat) (A : Int) (j : Nat) : List Int := fl s.length fun i => if k < i ∧ i < j then l.getD i 0 + (if pre (frs s l) (i + 1) < A then A else pre (frs s l) (i + 1)) - (if pre (frs s l) i < A then A else pre (frs s l) i) else s.getD i 0
end
end Bx

namespace Bx
open PySem PySem.Spec PyProof.Rows L2 Z
local macro_rules | `(tactic| walk_at "zz") => `(tactic| simp only [zSeq, zAsg, zRet, zRetN, zIfS, zNext, zDrop, zPar, zPar3, zVar, zC, zOp, zUn, zNeg, zI0, zI, zTest, zAnd, zOr, zNot, zAndV, zOrV, zNotV, zIf, zNil, zCons, zTup, zLst, zLstC, zgName, zgTup, zgCons, zgNil, zgSub, startZ, zCall, zCB, zChain, zIsN, zNotN, zNever,
  zAddA, zMulA, zRepeat, zCat, zIx, seqD, lstD, zMax2, zMin2, zAbs, zLen, zSum, zGcd, zInt, zYes, zBreak, zCont, zMin1, zMax1, zList, zListC, zLcC, zLc, ziR1, ziR2, ziList, ziTup, ziZip, ziEnum, wipeZ, zFor, zSl, zPart, zNoPart, zAppend, zLstR1, zLstR2, zCallBC, zCallBF,
  at0, at1, at2, at3, at4, ix2_3, ix0_3, isNon_int, isNon_non, Bool.not_true, Bool.not_false,
  List.map_cons, List.map_nil, List.length_cons, List.length_nil, List.replicate_succ, List.replicate_zero, List.append_nil, List.nil_append, List.cons_append, List.getElem?_cons_zero, List.getElem?_cons_succ, List.set_cons_zero, List.set_cons_succ,
  Option.some.injEq, D.int.injEq, D.bl.injEq, D.tup.injEq, D.lst.injEq, D.str.injEq, D.cell.injEq, O.lst.injEq, reduceCtorEq, exists_eq_left', exists_eq_left, false_and, and_false, true_and, and_true, exists_false, or_false, false_or, exists_and_left, exists_eq', exists_and_right, List.cons.injEq, and_assoc, dec_not, dec_yes, nd_t, nd_f, t_t, t_f, f_t, f_f, true_implies, false_implies, implies_true, and_self, Nat.reduceAdd, Nat.reduceLeDiff, Nat.reduceSub, Nat.reduceLT])
local macro_rules | `(tactic| walk_at "zy") => `(tactic| try simp only [Option.some.injEq, D.int.injEq, D.bl.injEq, D.tup.injEq, D.lst.injEq, D.str.injEq, D.cell.injEq, O.lst.injEq, reduceCtorEq, exists_eq_left', exists_eq_left, false_and, and_false, true_and, and_true, exists_false, or_false, false_or, exists_and_left, exists_eq', exists_and_right, List.cons.injEq, and_assoc, dec_not, dec_yes, nd_t, nd_f, t_t, t_f, f_t, f_f, true_implies, false_implies, implies_true, and_self])
section
variable {K : PySem.W.Frag} {C : CI} {Δ Δ' : Store} {P : D → Store → Prop} {d d2 : D} {s l f : List Int}
/-- the list while the boxes up to k give -/
def dnL (s l : List Int) (k : Nat) (A : Int) (j : Nat) : List Int := fl s.length fun i => if j ≤ i ∧ i ≤ k then l.getD i 0 + (if A < pre (frs s l) (i + 1) then A else pre (frs s l) (i + 1)) - (if A < pre (frs s l) i then A else pre (frs s l) i) else s.getD i 0
end
end Bx

namespace Bx
open PySem PySem.Spec PyProof.Rows L2 Z
local macro_rules | `(tactic| walk_at "zz") => `(tactic| simp only [zSeq, zAsg, zRet, zRetN, zIfS, zNext, zDrop, zPar, zPar3, zVar, zC, zOp, zUn, zNeg, zI0, zI, zTest, zAnd, zOr, zNot, zAndV, zOrV, zNotV, zIf, zNil, zCons, zTup, zLst, zLstC, zgName, zgTup, zgCons, zgNil, zgSub, startZ, zCall, zCB, zChain, zIsN, zNotN, zNever,
  zAddA, zMulA, zRepeat, zCat, zIx, seqD, lstD, zMax2, zMin2, zAbs, zLen, zSum, zGcd, zInt, zYes, zBreak, zCont, zMin1, zMax1, zList, zListC, zLcC, zLc, ziR1, ziR2, ziList, ziTup, ziZip, ziEnum, wipeZ, zFor, zSl, zPart, zNoPart, zAppend, zLstR1, zLstR2, zCallBC, zCallBF,
  at0, at1, at2, at3, at4, ix2_3, ix0_3, isNon_int, isNon_non, Bool.not_true, Bool.not_false,
  List.map_cons, List.map_nil, List.length_cons, List.length_nil, List.replicate_succ, List.replicate_zero, List.append_nil, List.nil_append, List.cons_append, List.getElem?_cons_zero, List.getElem?_cons_succ, List.set_cons_zero, List.set_cons_succ,
  Option.some.injEq, D.int.injEq, D.bl.injEq, D.tup.injEq, D.lst.injEq, D.str.injEq, D.cell.injEq, O.lst.injEq, reduceCtorEq, exists_eq_left', exists_eq_left, false_and, and_false, true_and, and_true, exists_false, or_false, false_or, exists_and_left, exists_eq', exists_and_right, List.cons.injEq, and_assoc, dec_not, dec_yes, nd_t, nd_f, t_t, t_f, f_t, f_f, true_implies, false_implies, implies_true, and_self, Nat.reduceAdd, Nat.reduceLeDiff, Nat.reduceSub, Nat.reduceLT])
local macro_rules | `(tactic| walk_at "zy") => `(tactic| try simp only [Option.some.injEq, D.int.injEq, D.bl.injEq, D.tup.injEq, D.lst.injEq, D.str.injEq, D.cell.injEq, O.lst.injEq, reduceCtorEq, exists_eq_left', exists_eq_left, false_and, and_false, true_and, and_true, exists_false, or_false, false_or, exists_and_left, exists_eq', exists_and_right, List.cons.injEq, and_assoc, dec_not, dec_yes, nd_t, nd_f, t_t, t_f, f_t, f_f, true_implies, false_implies, implies_true, and_self])
theorem pds_is : ∀ ns : List Int, pds (ns.map D.int) = ns.map PyData.int
  | [] => rfl
  | n :: ns => by
    show pd (.int n) :: pds (ns.map D.int) = _
    rw [pds_is ns]
    rfl
theorem canLay_is : ∀ ns : List Int, PyData.canLayAll0 (ns.map PyData.int) = true
  | [] => rfl
  | n :: ns => by
    show (true && PyData.canLayAll0 (ns.map PyData.int)) = true
    rw [canLay_is ns]
    rfl
theorem depth_is : ∀ ns : List Int, PyData.depthAll (ns.map PyData.int) ≤ 0
  | [] => Nat.zero_le _
  | n :: ns => Nat.max_le.mpr ⟨Nat.le_refl 0, depth_is ns⟩
theorem shp_ints (ns : List Int) : shp (.lst (ns.map D.int)) = true := by
  have h1 : plainD (.lst (ns.map D.int)) = true := plain_ints ns
  have h2 : PyData.canLay0 (pd (.lst (ns.map D.int))) = true := by
    show PyData.canLayAll0 (pds (ns.map D.int)) = true
    rw [pds_is]
    exact canLay_is ns
  have h3 : (pd (.lst (ns.map D.int))).depth ≤ 64 := by
    show PyData.depthAll (pds (ns.map D.int)) + 1 ≤ 64
    rw [pds_is]
    have := depth_is ns
    omega
  unfold shp SeqAt.shaped
  rw [h1, h2, decide_eq_true h3]
  rfl
section
variable {K : PySem.W.Frag} {C : CI} {Δ Δ' : Store} {P : D → Store → Prop} {d d2 : D} {s l f : List Int}
theorem eq_bl {a b : Bool} (p : P (.bl (a == b)) Δ) : zEqD (.bl a) (.bl b) Δ P := ⟨rfl, rfl, by cases a <;> cases b <;> exact p⟩
theorem ne_bl {a b : Bool} (p : P (.bl (!(a == b))) Δ) : zNeD (.bl a) (.bl b) Δ P := ⟨rfl, rfl, by cases a <;> cases b <;> exact p⟩
theorem range_nat {n : Nat} : rangeD 0 (n : Int) = (List.range n).map fun (i : Nat) => D.int (0 + (i : Int)) := by
  unfold rangeD
  rw [show ((n : Int) - 0).toNat = n by omega]
theorem eqD_same {x : D} (hs : shp x = true) : eqD x x = true := by
  unfold eqD
  rw [SeqAt.eqv_refl _ (SeqAt.canLay_of_shaped (Bool.and_eq_true_iff.mp hs).2)]
theorem ne_sameD {x y z : D} (h1 : Z.rdk Δ 3 x = z) (h2 : Z.rdk Δ 3 y = z) (hs : shp z = true) (p : P (.bl false) Δ) : zNeD x y Δ P := by
  refine ⟨by rw [h1]; exact hs, by rw [h2]; exact hs, ?_⟩
  rw [h1, h2, eqD_same hs]
  exact p
theorem eq_sameD {x y z : D} (h1 : Z.rdk Δ 3 x = z) (h2 : Z.rdk Δ 3 y = z) (hs : shp z = true) (p : P (.bl true) Δ) : zEqD x y Δ P := by
  refine ⟨by rw [h1]; exact hs, by rw [h2]; exact hs, ?_⟩
  rw [h1, h2, eqD_same hs]
  exact p
end
end Bx

namespace Bx
open PySem PySem.Spec PyProof.Rows L2 Z
local macro_rules | `(tactic| walk_at "zz") => `(tactic| simp only [zSeq, zAsg, zRet, zRetN, zIfS, zNext, zDrop, zPar, zPar3, zVar, zC, zOp, zUn, zNeg, zI0, zI, zTest, zAnd, zOr, zNot, zAndV, zOrV, zNotV, zIf, zNil, zCons, zTup, zLst, zLstC, zgName, zgTup, zgCons, zgNil, zgSub, startZ, zCall, zCB, zChain, zIsN, zNotN, zNever,
  zAddA, zMulA, zRepeat, zCat, zIx, seqD, lstD, zMax2, zMin2, zAbs, zLen, zSum, zGcd, zInt, zYes, zBreak, zCont, zMin1, zMax1, zList, zListC, zLcC, zLc, ziR1, ziR2, ziList, ziTup, ziZip, ziEnum, wipeZ, zFor, zSl, zPart, zNoPart, zAppend, zLstR1, zLstR2, zCallBC, zCallBF,
  at0, at1, at2, at3, at4, ix2_3, ix0_3, isNon_int, isNon_non, Bool.not_true, Bool.not_false,
  List.map_cons, List.map_nil, List.length_cons, List.length_nil, List.replicate_succ, List.replicate_zero, List.append_nil, List.nil_append, List.cons_append, List.getElem?_cons_zero, List.getElem?_cons_succ, List.set_cons_zero, List.set_cons_succ,
  Option.some.injEq, D.int.injEq, D.bl.injEq, D.tup.injEq, D.lst.injEq, D.str.injEq, D.cell.injEq, O.lst.injEq, reduceCtorEq, exists_eq_left', exists_eq_left, false_and, and_false, true_and, and_true, exists_false, or_false, false_or, exists_and_left, exists_eq', exists_and_right, List.cons.injEq, and_assoc, dec_not, dec_yes, nd_t, nd_f, t_t, t_f, f_t, f_f, true_implies, false_implies, implies_true, and_self, Nat.reduceAdd, Nat.reduceLeDiff, Nat.reduceSub, Nat.reduceLT])
local macro_rules | `(tactic| walk_at "zy") => `(tactic| try simp only [Option.some.injEq, D.int.injEq, D.bl.injEq, D.tup.injEq, D.lst.injEq, D.str.injEq, D.cell.injEq, O.lst.injEq, reduceCtorEq, exists_eq_left', exists_eq_left, false_and, and_false, true_and, and_true, exists_false, or_false, false_or, exists_and_left, exists_eq', exists_and_right, List.cons.injEq, and_assoc, dec_not, dec_yes, nd_t, nd_f, t_t, t_f, f_t, f_f, true_implies, false_implies, implies_true, and_self])
/-! ### drags in a row -/
section
variable {s l f : List Int}
theorem nwP_0 {k : Nat} {x : Int} (x0 : 0 ≤ x) : nwP f k x 0 = 0 := by
  unfold nwP
  rw [pre_0, if_pos (Nat.zero_le k), if_pos (Nat.zero_le (k + 1)), if_neg (show ¬ x < 0 by omega), ite_self]
theorem nwP_k {k : Nat} {x : Int} : nwP f k x (k + 1) = x := by
  unfold nwP
  rw [if_neg (show ¬ k + 1 ≤ k by omega), if_pos (Nat.le_refl _)]
  split <;> (try split) <;> omega
theorem nwP_lo {k i : Nat} {x : Int} (hi : i ≤ k) (h : pre f i ≤ pre f (k + 1)) : nwP f k x i = min (pre f i) x := by
  unfold nwP
  rw [if_pos hi, if_pos (show i ≤ k + 1 by omega)]
  split
  · omega
  · split <;> omega
theorem nwP_hi {k i : Nat} {x : Int} (hi : k + 1 < i) (h : pre f (k + 1) ≤ pre f i) : nwP f k x i = max (pre f i) x := by
  unfold nwP
  rw [if_neg (show ¬ i ≤ k by omega), if_neg (show ¬ i ≤ k + 1 by omega)]
  split
  · split <;> omega
  · omega
theorem lim_mm {v b : Int} (h : 0 ≤ b) : lim v 0 b = min (max v 0) b := by
  unfold lim
  split
  · omega
  · split <;> omega
theorem nwP_top {k n : Nat} {x : Int} (hk : k + 1 < n) (hx : x ≤ pre f n) : nwP f k x n = pre f n := by
  unfold nwP
  rw [if_neg (show ¬ n ≤ k by omega), if_neg (show ¬ n ≤ k + 1 by omega)]
  split
  · rw [if_neg (by omega)]
  · rfl
theorem nwP_mono {k i : Nat} {x : Int} (h0 : ∀ i, i < f.length → 0 ≤ f.getD i 0) (hk : k + 1 < f.length) (hi : i < f.length) : nwP f k x i ≤ nwP f k x (i + 1) := by
  have e1 : pre f i ≤ pre f (i + 1) := pre_mono h0 (by omega) (by omega)
  unfold nwP
  by_cases c : pre f (k + 1) < x
  · rw [if_pos c, if_pos c]
    by_cases c1 : i + 1 ≤ k
    · rw [if_pos c1, if_pos (show i ≤ k by omega)]; exact e1
    · rw [if_neg c1]
      by_cases c2 : i ≤ k
      · rw [if_pos c2]
        split <;> omega
      · rw [if_neg c2]
        split <;> split <;> omega
  · rw [if_neg c, if_neg c]
    by_cases c1 : i + 1 ≤ k + 1
    · rw [if_pos c1, if_pos (show i ≤ k + 1 by omega)]
      split <;> split <;> omega
    · rw [if_neg c1]
      by_cases c2 : i ≤ k + 1
      · rw [if_pos c2]
        split <;> omega
      · rw [if_neg c2]; exact e1
theorem drg_len {k : Nat} {a : Int} : (drg s l k a).length = s.length := fl_len
theorem drg_get {k i : Nat} {a : Int} (hi : i < s.length) : (drg s l k a).getD i 0 = l.getD i 0 + nwP (frs s l) k (lim (pre (frs s l) (k + 1) + a) 0 (frs s l).sum) (i + 1) - nwP (frs s l) k (lim (pre (frs s l) (k + 1) + a) 0 (frs s l).sum) i := by
  unfold drg
  exact fl_get hi
theorem drg_rw (R : Rw s l) {k : Nat} (hk : k + 1 < s.length) {a : Int} : Rw (drg s l k a) l := by
  have fl' := frs_len R.len
  have le : ∀ i, i < s.length → l.getD i 0 ≤ (drg s l k a).getD i 0 := fun i hi => by
    rw [drg_get hi]
    have := nwP_mono (k := k) (x := lim (pre (frs s l) (k + 1) + a) 0 (frs s l).sum) (frs_nn R) (by omega) (show i < (frs s l).length by omega)
    omega
  refine ⟨by rw [drg_len]; exact R.len, by rw [drg_len]; exact R.two, by rw [drg_len]; exact R.forty, R.l0, fun x hx => ?_, fun i hi => le i (by rw [drg_len] at hi; exact hi)⟩
  obtain ⟨i, hi, e⟩ := List.getElem_of_mem hx
  have hi2 : i < s.length := by rw [drg_len] at hi; exact hi
  have h1 := le i hi2
  have hl : i < l.length := by rw [← R.len]; exact hi2
  have h2 : 0 ≤ l.getD i 0 := by
    rw [List.getD_eq_getElem?_getD, List.getElem?_eq_getElem hl]
    exact R.l0 _ (List.getElem_mem hl)
  rw [List.getD_eq_getElem?_getD (l := drg s l k a), List.getElem?_eq_getElem hi, e] at h1
  have h1 : l.getD i 0 ≤ x := h1
  omega
/-- the heights behind a drag -/
theorem pre_drg (R : Rw s l) {k : Nat} (hk : k + 1 < s.length) {a : Int} : ∀ i, i ≤ s.length → pre (frs (drg s l k a) l) i = nwP (frs s l) k (lim (pre (frs s l) (k + 1) + a) 0 (frs s l).sum) i := by
  have R' := drg_rw R hk (a := a)
  have fl2 := frs_len R'.len
  intro i
  induction i with
  | zero => intro _; rw [pre_0, nwP_0 (lim_in (sum_nn R)).1]
  | succ i ih =>
    intro hi
    rw [pre_succ (by rw [fl2, drg_len]; omega), ih (by omega), frs_get R'.len (by rw [drg_len]; omega), drg_get (by omega)]
    omega
theorem sum_drg (R : Rw s l) {k : Nat} (hk : k + 1 < s.length) {a : Int} : (frs (drg s l k a) l).sum = (frs s l).sum := by
  have R' := drg_rw R hk (a := a)
  have fl2 := frs_len R'.len
  rw [← pre_all, fl2, drg_len, pre_drg R hk _ (Nat.le_refl _)]
  have e : (frs s l).sum = pre (frs s l) s.length := by rw [← pre_all, frs_len R.len]
  rw [nwP_top hk (by rw [← e]; exact (lim_in (sum_nn R)).2), ← e]
theorem sum_drg2 (R : Rw s l) {k : Nat} (hk : k + 1 < s.length) {a : Int} : (drg s l k a).sum = s.sum := by
  have h := sum_drg R hk (a := a)
  rw [sum_frs (drg_rw R hk).len, sum_frs R.len] at h
  omega
theorem drg_drg (R : Rw s l) {k : Nat} (hk : k + 1 < s.length) {a b : Int} (hab : 0 ≤ a ∧ 0 ≤ b ∨ a ≤ 0 ∧ b ≤ 0) : drg (drg s l k a) l k b = drg s l k (a + b) := by
  have fl' := frs_len R.len
  have hT := sum_nn R
  have key : ∀ i, i ≤ s.length → nwP (frs (drg s l k a) l) k (lim (pre (frs (drg s l k a) l) (k + 1) + b) 0 (frs (drg s l k a) l).sum) i = nwP (frs s l) k (lim (pre (frs s l) (k + 1) + (a + b)) 0 (frs s l).sum) i := fun i hi => by
    rw [sum_drg R hk]
    have e0 := pre_drg R hk (a := a) (k + 1) (by omega)
    have e1 := pre_drg R hk (a := a) i hi
    rw [nwP_k] at e0
    have pT : pre (frs s l) (k + 1) ≤ (frs s l).sum := by
      rw [← pre_all]
      exact pre_mono (frs_nn R) (by omega) (Nat.le_refl _)
    have p0 : 0 ≤ pre (frs s l) (k + 1) := by
      have := pre_mono (frs_nn R) (Nat.zero_le (k + 1)) (by omega)
      rw [pre_0] at this
      exact this
    have q1 : i ≤ k + 1 → pre (frs s l) i ≤ pre (frs s l) (k + 1) := fun h => pre_mono (frs_nn R) h (by omega)
    have q2 : k + 1 ≤ i → pre (frs s l) (k + 1) ≤ pre (frs s l) i := fun h => pre_mono (frs_nn R) h (by omega)
    rw [e0]
    have hl1 := lim_mm (v := pre (frs s l) (k + 1) + a) hT
    have hl2 := lim_mm (v := lim (pre (frs s l) (k + 1) + a) 0 (frs s l).sum + b) hT
    have hl3 := lim_mm (v := pre (frs s l) (k + 1) + (a + b)) hT
    by_cases c : i ≤ k
    · have g := q1 (by omega)
      have g2 : pre (frs (drg s l k a) l) i ≤ pre (frs (drg s l k a) l) (k + 1) := by rw [e1, e0, nwP_lo c g]; omega
      rw [nwP_lo c g] at e1
      rw [nwP_lo c g2, nwP_lo c g, e1]
      generalize pre (frs s l) (k + 1) = p at *
      generalize pre (frs s l) i = r at *
      omega
    · by_cases c2 : i = k + 1
      · subst c2
        rw [nwP_k, nwP_k]
        omega
      · have g := q2 (by omega)
        have g2 : pre (frs (drg s l k a) l) (k + 1) ≤ pre (frs (drg s l k a) l) i := by rw [e1, e0, nwP_hi (by omega) g]; omega
        rw [nwP_hi (by omega) g] at e1
        rw [nwP_hi (by omega) g2, nwP_hi (by omega) g, e1]
        generalize pre (frs s l) (k + 1) = p at *
        generalize pre (frs s l) i = r at *
        omega
  unfold drg at key ⊢
  rw [fl_len]
  refine fl_congr fun i hi => ?_
  rw [key i (by omega), key (i + 1) (by omega)]
theorem drg_0 (R : Rw s l) {k : Nat} (hk : k + 1 < s.length) : drg s l k 0 = s := by
  have hT := sum_nn R
  have fl' := frs_len R.len
  have pT : pre (frs s l) (k + 1) ≤ (frs s l).sum := by
    rw [← pre_all]
    exact pre_mono (frs_nn R) (by omega) (Nat.le_refl _)
  have p0 : 0 ≤ pre (frs s l) (k + 1) := by
    have := pre_mono (frs_nn R) (Nat.zero_le (k + 1)) (by omega)
    rw [pre_0] at this
    exact this
  have e : lim (pre (frs s l) (k + 1) + 0) 0 (frs s l).sum = pre (frs s l) (k + 1) := by rw [lim_mm hT]; omega
  have key : ∀ i, i ≤ s.length → nwP (frs s l) k (pre (frs s l) (k + 1)) i = pre (frs s l) i := fun i hi => by
    by_cases c : i ≤ k
    · have := pre_mono (frs_nn R) (show i ≤ k + 1 by omega) (by omega)
      rw [nwP_lo c this]
      omega
    · by_cases c2 : i = k + 1
      · rw [c2, nwP_k]
      · have := pre_mono (frs_nn R) (show k + 1 ≤ i by omega) (by omega)
        rw [nwP_hi (by omega) this]
        omega
  unfold drg
  rw [e]
  refine Eq.trans (fl_congr (g' := fun i => s.getD i 0) fun i hi => ?_) fl_of.symm
  rw [key i (by omega), key (i + 1) (by omega), pre_succ (by omega), frs_get R.len hi]
  omega
end
end Bx

namespace Bx
open PySem PySem.Spec PyProof.Rows L2 Z
local macro_rules | `(tactic| walk_at "zz") => `(tactic| simp only [zSeq, zAsg, zRet, zRetN, zIfS, zNext, zDrop, zPar, zPar3, zVar, zC, zOp, zUn, zNeg, zI0, zI, zTest, zAnd, zOr, zNot, zAndV, zOrV, zNotV, zIf, zNil, zCons, zTup, zLst, zLstC, zgName, zgTup, zgCons, zgNil, zgSub, startZ, zCall, zCB, zChain, zIsN, zNotN, zNever,
  zAddA, zMulA, zRepeat, zCat, zIx, seqD, lstD, zMax2, zMin2, zAbs, zLen, zSum, zGcd, zInt, zYes, zBreak, zCont, zMin1, zMax1, zList, zListC, zLcC, zLc, ziR1, ziR2, ziList, ziTup, ziZip, ziEnum, wipeZ, zFor, zSl, zPart, zNoPart, zAppend, zLstR1, zLstR2, zCallBC, zCallBF,
  at0, at1, at2, at3, at4, ix2_3, ix0_3, isNon_int, isNon_non, Bool.not_true, Bool.not_false,
  List.map_cons, List.map_nil, List.length_cons, List.length_nil, List.replicate_succ, List.replicate_zero, List.append_nil, List.nil_append, List.cons_append, List.getElem?_cons_zero, List.getElem?_cons_succ, List.set_cons_zero, List.set_cons_succ,
  Option.some.injEq, D.int.injEq, D.bl.injEq, D.tup.injEq, D.lst.injEq, D.str.injEq, D.cell.injEq, O.lst.injEq, reduceCtorEq, exists_eq_left', exists_eq_left, false_and, and_false, true_and, and_true, exists_false, or_false, false_or, exists_and_left, exists_eq', exists_and_right, List.cons.injEq, and_assoc, dec_not, dec_yes, nd_t, nd_f, t_t, t_f, f_t, f_f, true_implies, false_implies, implies_true, and_self, Nat.reduceAdd, Nat.reduceLeDiff, Nat.reduceSub, Nat.reduceLT])
local macro_rules | `(tactic| walk_at "zy") => `(tactic| try simp only [Option.some.injEq, D.int.injEq, D.bl.injEq, D.tup.injEq, D.lst.injEq, D.str.injEq, D.cell.injEq, O.lst.injEq, reduceCtorEq, exists_eq_left', exists_eq_left, false_and, and_false, true_and, and_true, exists_false, or_false, false_or, exists_and_left, exists_eq', exists_and_right, List.cons.injEq, and_assoc, dec_not, dec_yes, nd_t, nd_f, t_t, t_f, f_t, f_f, true_implies, false_implies, implies_true, and_self])
/-! ### the store goes on: old cells but n stay -/
structure Ex (n : Nat) (Δ E : Store) : Prop where
  le : Δ.length ≤ E.length
  at_ : ∀ m, m < Δ.length → m ≠ n → E[m]? = Δ[m]?
theorem Ex.refl (n : Nat) (Δ : Store) : Ex n Δ Δ := ⟨Nat.le_refl _, fun _ _ _ => rfl⟩
theorem Ex.trans {n : Nat} {Δ E F : Store} (a : Ex n Δ E) (b : Ex n E F) : Ex n Δ F := ⟨Nat.le_trans a.le b.le, fun m h1 h2 => (b.at_ m (Nat.lt_of_lt_of_le h1 a.le) h2).trans (a.at_ m h1 h2)⟩
theorem Ex.off {n : Nat} {Δ E : Store} (o : Off n Δ E) : Ex n Δ E := ⟨Nat.le_of_eq o.len.symm, fun m _ h => o.at_ m h⟩
theorem Ex.app (n : Nat) (Δ r : Store) : Ex n Δ (Δ ++ r) := ⟨by simp, fun m h _ => List.getElem?_append_left h⟩
theorem Ex.set {n m : Nat} {Δ E : Store} {o : O} (a : Ex n Δ E) (h : Δ.length ≤ m) : Ex n Δ (E.set m o) := ⟨by rw [List.length_set]; exact a.le, fun i h1 h2 => by rw [List.getElem?_set_ne (by omega)]; exact a.at_ i h1 h2⟩
theorem Ls.ex {n : Nat} {Δ E : Store} {d : D} {s : List Int} (h : Ls Δ d s) (o : Ex n Δ E) (hn : d ≠ .cell n) : Ls E d s := by
  rcases h with h | ⟨m, rfl, e⟩
  · exact .inl h
  · exact .inr ⟨m, rfl, by rw [o.at_ m (List.getElem?_eq_some_iff.mp e).1 fun q => hn (by rw [q])]; exact e⟩
/-- comprehensions with the number of turns -/
theorem comp_eachN {zg : ZG} {ze : ZE} {Γ0 : Z.Env} {P : D → Store → Prop} (J : Nat → Store → Prop) (R : D → Prop) : ∀ (items acc : List D) (k : Nat) (Δ : Store), J k Δ → (∀ y ∈ acc, R y) → acc.length + items.length ≤ 100000 →
    (∀ x ∈ items, ∀ i Δ (Q : D → Store → Prop), J i Δ → i < k + items.length → (∀ y Δ', J (i + 1) Δ' → R y → Q y Δ') → zg x Γ0 Δ fun Γ2 Δ2 => ze Γ2 Δ2 Q) →
    (∀ ys Δ', J (k + items.length) Δ' → (∀ y ∈ ys, R y) → ys.length = acc.length + items.length → P (.lst ys) Δ') → compZ zg zYes ze Γ0 P items acc Δ
  | [], acc, k, Δ, hj, ha, _, _, h => h acc Δ hj ha rfl
  | x :: xs, acc, k, Δ, hj, ha, hl, hs, h => by
    have hl' : acc.length + (xs.length + 1) ≤ 100000 := by simpa using hl
    show zg x Γ0 Δ fun Γ2 Δ2 => (true = true → ze Γ2 Δ2 fun y Δ4 => acc.length < 100000 ∧ compZ zg zYes ze Γ0 P xs (acc ++ [y]) Δ4) ∧ (true = false → compZ zg zYes ze Γ0 P xs acc Δ2)
    simp only [true_implies, reduceCtorEq, false_implies, and_true]
    refine hs x List.mem_cons_self k Δ _ hj (by simp) fun y Δ' hj' hy => ⟨by omega, ?_⟩
    refine comp_eachN J R xs (acc ++ [y]) (k + 1) Δ' hj' (fun z hz => ?_) (by simp; omega) (fun z hz i Δ Q h1 h2 h3 => hs z (List.mem_cons_of_mem _ hz) i Δ Q h1 (by simp; omega) h3) fun ys Δ2 h1 h2 h3 => h ys Δ2 (by rw [show k + (x :: xs).length = k + 1 + xs.length by simp; omega]; exact h1) h2 (by simp at h3 ⊢; omega)
    rcases List.mem_append.mp hz with hz | hz
    · exact ha z hz
    · rw [List.mem_singleton] at hz
      subst hz
      exact hy
theorem of_ints {p : Int → Prop} : ∀ {ys : List D}, (∀ y ∈ ys, ∃ i, p i ∧ y = .int i) → ∃ l : List Int, ys = isD l ∧ ∀ i ∈ l, p i
  | [], _ => ⟨[], rfl, fun _ h => nomatch h⟩
  | y :: ys, h => by
    obtain ⟨i, h1, rfl⟩ := h y List.mem_cons_self
    obtain ⟨l, rfl, h2⟩ := of_ints fun z hz => h z (List.mem_cons_of_mem _ hz)
    exact ⟨i :: l, rfl, fun z hz => by rcases List.mem_cons.mp hz with rfl | hz; exact h1; exact h2 z hz⟩
theorem atM {l : List D} {i : Int} (h0 : 0 ≤ i) (h1 : i < l.length) : ∃ d, d ∈ l ∧ atI l i = some d := by
  obtain ⟨d, h, e⟩ := atN h0 h1
  exact ⟨d, List.mem_of_getElem? h, e⟩
theorem for_cut {zi : ZI} {g : ZG} {zs : ZS} {Ze : ZEnds} {Γ : Z.Env} {Δ : Store} (h : ∀ body : D → ZS, body = (fun x Z' Γ' Δ' => g x Γ' Δ' fun Γ2 Δ2 => zs Z' Γ2 Δ2) → zi Γ Δ fun items Δ1 => loopZ body Ze items Γ Δ1) : zFor zi g zs Ze Γ Δ := h _ rfl
section
variable {K : PySem.W.Frag} {C : CI} {Δ Δ' : Store} {P : D → Store → Prop} {d d2 : D} {s l f : List Int}
theorem Fnt.set_ne {n m : Nat} {c : Int} {o : O} (h : Fnt Δ n c) (hm : m ≠ n) : Fnt (Δ.set m o) n c := by
  obtain ⟨x, y, z, e, h1⟩ := h
  exact ⟨x, y, z, by rw [List.getElem?_set_ne hm]; exact e, h1⟩
theorem isD_snoc {x : Int} : isD (s ++ [x]) = isD s ++ [.int x] := by unfold isD; rw [List.map_append]; rfl
/-- one of 0, two drawn numbers -/
theorem one_ok {n : Nat} {c wide : Int} {Q : D → Store → Prop} (hb : Fnt Δ n c) (hc : c ≤ 10 ^ 19) (w1 : 1 ≤ wide) (w2 : wide ≤ 10 ^ 30) (h : ∀ (x : Int) E, 0 ≤ x → x ≤ 10 ^ 30 → Fnt E n (c + 3) → Off n Δ E → Q (.int x) E) :
    W__law_sip K C [.cell n, .int 9] Δ fun d1 Δ1 => CDivW wide 2 ∧ W__law_sip K C [.cell n, .int (wide / 2 + 1)] Δ1 fun d2 Δ2 => W__law_sip K C [.cell n, .int 3] Δ2 fun y Δ3 => ∃ ds i, y = .int i ∧ [.int 0, d1, d2] = ds ∧ ∃ x, atI ds i = some x ∧ Q x Δ3 := by
  refine sip_ok hb (by omega) (by decide) (sm (by decide) (by decide)) fun a1 Δ1 a10 a11 b1 o1 => ?_
  refine ⟨divk (by decide) (by decide), ?_⟩
  refine sip_ok b1 (by omega) (by omega) (sm (by omega) (by omega)) fun a2 Δ2 a20 a21 b2 o2 => ?_
  refine sip_ok b2 (by omega) (by decide) (sm (by decide) (by decide)) fun a3 Δ3 a30 a31 b3 o3 => ?_
  obtain ⟨d, hd, e⟩ := atM (l := [D.int 0, D.int a1, D.int a2]) a30 a31
  obtain ⟨x, rfl, x0, x1⟩ : ∃ x : Int, d = .int x ∧ 0 ≤ x ∧ x ≤ 10 ^ 30 := by
    simp only [List.mem_cons, List.not_mem_nil, or_false] at hd
    rcases hd with rfl | rfl | rfl
    · exact ⟨0, rfl, by omega, by omega⟩
    · exact ⟨a1, rfl, a10, by omega⟩
    · exact ⟨a2, rfl, a20, by omega⟩
  exact ⟨_, a3, rfl, rfl, _, e, h x Δ3 x0 x1 (b3.mono (by omega)) ((o1.trans o2).trans o3)⟩
theorem sizes_ok {n : Nat} {c many wide : Int} (hb : Fnt Δ n c) (hc : c ≤ 10 ^ 18) (m2 : 2 ≤ many) (m40 : many ≤ 40) (w1 : 1 ≤ wide) (w2 : wide ≤ 10 ^ 30)
    (h : ∀ s l m E, Rw s l → (∀ i ∈ s, i ≤ 10 ^ 31) → (∀ i ∈ l, i ≤ 10 ^ 31) → (s.length : Int) = many → Ex n Δ E → Fnt E n (c + 240) → Δ.length ≤ m → E[m]? = some (.lst (isD s)) → P (.tup [.cell m, .lst (isD l)]) E) : W__law_sizes K C [.cell n, .int many, .int wide] Δ P := by
  unfold W__law_sizes z__law_sizes
  refine ⟨rfl, ?_⟩
  refine seq_cut fun rest hr => ?_
  walk_at "zz"
  refine ⟨by omega, by omega, ?_⟩
  refine comp_eachN (fun i E => Off n Δ E ∧ Fnt E n (c + 3 * i)) (fun y => ∃ i : Int, (0 ≤ i ∧ i ≤ 10 ^ 30) ∧ y = .int i) _ _ 0 _ ⟨Off.refl _ _, hb.mono (by omega)⟩ (fun _ q => nomatch q) (by rw [rangeD_len]; simp; omega) (fun x hx i E Q hj hi hQ => ?_) (fun ys E hj hy hlen => ?_)
  · rw [rangeD_len] at hi
    walk_at "zz"
    refine one_ok hj.2 (by omega) w1 w2 fun x F x0 x1 b o => hQ _ _ ⟨hj.1.trans o, b.mono (by omega)⟩ ⟨x, ⟨x0, x1⟩, rfl⟩
  · obtain ⟨l, rfl, l01⟩ := of_ints hy
    have l0 : ∀ i ∈ l, 0 ≤ i := fun i hi => (l01 i hi).1
    have l1 : ∀ i ∈ l, i ≤ 10 ^ 30 := fun i hi => (l01 i hi).2
    rw [rangeD_len, isD_len] at hlen
    have ll : l.length = many.toNat := by simpa using hlen
    rw [rangeD_len] at hj
    subst hr
    refine seq_cut fun rest hr => ?_
    walk_at "zz"
    subst hr
    refine seq_cut fun rest hr => ?_
    refine for_cut fun body hB => ?_
    refine ⟨_, rfl, .inl ⟨_, rfl, ?_⟩⟩
    refine loop_inv (fun i Γ F => ∃ (s : List Int) (u5 u6 : Option D), s.length = i ∧ (∀ j, j < i → l.getD j 0 ≤ s.getD j 0) ∧ (∀ i ∈ s, i ≤ 10 ^ 31) ∧ Ex n Δ F ∧ Fnt F n (c + 120 + 3 * i) ∧ F[E.length]? = some (.lst (isD s)) ∧ Γ = [some (.cell n), some (.int many), some (.int wide), some (.lst (isD l)), some (.cell E.length), u5, u6, none]) _ 0 _ _ ⟨[], none, none, rfl, (fun j hj => absurd hj (Nat.not_lt_zero j)), (fun _ q => nomatch q), (Ex.off hj.1).trans (Ex.app _ _ _), (hj.2.mono (by omega)).app _, last_at, rfl⟩ ?_ ?_
    · rintro i x Γ F Ze hx ⟨s, u5, u6, hs, hle, hbd, ex, hf, hF, rfl⟩ hn _ _ _
      rw [Nat.zero_add] at *
      have il : i < l.length := by
        have := (List.getElem?_eq_some_iff.mp hx).1
        rw [isD_len] at this
        exact this
      rw [ints_get (List.getElem?_eq_getElem il)] at hx
      cases hx
      subst hB
      simp only [zgName, List.set_cons_succ, List.set_cons_zero]
      refine seq_cut fun rest2 hr2 => ?_
      walk_at "zz"
      have hne : E.length ≠ n := by
        have := hb.lt
        have := hj.1.len
        omega
      refine one_ok hf (by omega) w1 w2 fun x G x0 x1 b o => ?_
      subst hr2
      have hG : G[E.length]? = some (.lst (isD s)) := by rw [o.at_ _ hne]; exact hF
      walk_at "zz"
      simp only [hG, Option.some.injEq, exists_eq_left', O.lst.injEq]
      try walk_at "zz"
      refine ⟨by rw [isD_len]; omega, hn _ _ ⟨s ++ [l[i] + x], _, _, by simp [hs], fun j hj2 => ?_, fun y hy => ?_, (ex.trans (Ex.off o)).set (Nat.le_of_eq hj.1.len.symm), (b.set_ne hne).mono (by omega), ?_, rfl⟩⟩
      · rw [getD_app]
        by_cases q : j < i
        · rw [if_pos (by omega)]; exact hle j q
        · have e : j = i := by omega
          rw [if_neg (by omega), hs, e, Nat.sub_self, List.getD_eq_getElem?_getD, List.getElem?_eq_getElem il]
          show l[i] ≤ l[i] + x
          omega
      · rcases List.mem_append.mp hy with hy | hy
        · exact hbd y hy
        · rw [List.mem_singleton.mp hy]
          have := l1 _ (List.getElem_mem il)
          omega
      · rw [isD_snoc]
        exact set_get hG _
    · rintro Γ F ⟨s, u5, u6, hs, hle, hbd, ex, hf, hF, rfl⟩
      rw [Nat.zero_add, isD_len] at *
      show rest _ _
      subst hr
      walk_at "zz"
      refine h s l E.length F ⟨hs, by omega, by omega, l0, fun x hx => ?_, fun i hi => hle i (by omega)⟩ hbd (fun i hi => by have := l1 i hi; omega) (by omega) ex (hf.mono (by omega)) (Nat.le_of_eq hj.1.len.symm) hF
      obtain ⟨i, hi, e⟩ := List.getElem_of_mem hx
      have h1 := hle i (by omega)
      have hl : i < l.length := by omega
      have h2 := l0 _ (List.getElem_mem hl)
      rw [List.getD_eq_getElem?_getD, List.getElem?_eq_getElem hl, List.getD_eq_getElem?_getD, List.getElem?_eq_getElem hi, e] at h1
      have h1 : l[i] ≤ x := h1
      omega
theorem number_ok {n : Nat} {c wide : Int} (hb : Fnt Δ n c) (hc : c ≤ 10 ^ 18) (w1 : 1 ≤ wide) (w2 : wide ≤ 10 ^ 30) (h : ∀ (x : Int) E, x.natAbs ≤ 10 ^ 30 → Fnt E n (c + 6) → Off n Δ E → P (.int x) E) : W__law_number K C [.cell n, .int wide] Δ P := by
  unfold W__law_number z__law_number
  walk_at "zz"
  refine sip_ok hb (by omega) (by decide) (sm (by decide) (by decide)) fun a1 Δ1 a10 a11 b1 o1 => ?_
  refine sip_ok b1 (by omega) (by decide) (sm (by decide) (by decide)) fun a2 Δ2 a20 a21 b2 o2 => ?_
  refine sip_ok b2 (by omega) (by omega) (sm (by omega) (by omega)) fun a3 Δ3 a30 a31 b3 o3 => ?_
  refine sip_ok b3 (by omega) (by decide) (sm (by decide) (by decide)) fun a4 Δ4 a40 a41 b4 o4 => ?_
  obtain ⟨d, hd, e⟩ := atM (l := [D.int 1, D.int a1, D.int a2, D.int a3]) a40 a41
  obtain ⟨x, rfl, x0⟩ : ∃ x : Int, d = .int x ∧ x.natAbs ≤ 10 ^ 30 := by
    simp only [List.mem_cons, List.not_mem_nil, or_false] at hd
    rcases hd with rfl | rfl | rfl | rfl
    · exact ⟨_, rfl, by decide⟩
    · exact ⟨_, rfl, by omega⟩
    · exact ⟨_, rfl, by omega⟩
    · exact ⟨_, rfl, by omega⟩
  refine ⟨_, a4, rfl, rfl, _, e, ?_⟩
  try walk_at "zz"
  refine sip_ok b4 (by omega) (by decide) (sm (by decide) (by decide)) fun a5 Δ5 a50 a51 b5 o5 => ?_
  obtain ⟨d, hd, e⟩ := atM (l := [D.int 1, D.int (-1)]) a50 a51
  obtain ⟨y, rfl, hy⟩ : ∃ y : Int, d = .int y ∧ (y = 1 ∨ y = -1) := by
    simp only [List.mem_cons, List.not_mem_nil, or_false] at hd
    rcases hd with rfl | rfl
    · exact ⟨_, rfl, .inl rfl⟩
    · exact ⟨_, rfl, .inr rfl⟩
  try walk_at "zz"
  refine ⟨_, e, _, rfl, .r (by omega) (by omega), h _ _ (by rcases hy with rfl | rfl <;> omega) (b5.mono (by omega)) ((((o1.trans o2).trans o3).trans o4).trans o5)⟩
end
end Bx

namespace Bx
open PySem PySem.Spec PyProof.Rows L2 Z
local macro_rules | `(tactic| walk_at "zz") => `(tactic| simp only [zSeq, zAsg, zRet, zRetN, zIfS, zNext, zDrop, zPar, zPar3, zVar, zC, zOp, zUn, zNeg, zI0, zI, zTest, zAnd, zOr, zNot, zAndV, zOrV, zNotV, zIf, zNil, zCons, zTup, zLst, zLstC, zgName, zgTup, zgCons, zgNil, zgSub, startZ, zCall, zCB, zChain, zIsN, zNotN, zNever,
  zAddA, zMulA, zRepeat, zCat, zIx, seqD, lstD, zMax2, zMin2, zAbs, zLen, zSum, zGcd, zInt, zYes, zBreak, zCont, zMin1, zMax1, zList, zListC, zLcC, zLc, ziR1, ziR2, ziList, ziTup, ziZip, ziEnum, wipeZ, zFor, zSl, zPart, zNoPart, zAppend, zLstR1, zLstR2, zCallBC, zCallBF,
  at0, at1, at2, at3, at4, ix2_3, ix0_3, isNon_int, isNon_non, Bool.not_true, Bool.not_false,
  List.map_cons, List.map_nil, List.length_cons, List.length_nil, List.replicate_succ, List.replicate_zero, List.append_nil, List.nil_append, List.cons_append, List.getElem?_cons_zero, List.getElem?_cons_succ, List.set_cons_zero, List.set_cons_succ,
  Option.some.injEq, D.int.injEq, D.bl.injEq, D.tup.injEq, D.lst.injEq, D.str.injEq, D.cell.injEq, O.lst.injEq, reduceCtorEq, exists_eq_left', exists_eq_left, false_and, and_false, true_and, and_true, exists_false, or_false, false_or, exists_and_left, exists_eq', exists_and_right, List.cons.injEq, and_assoc, dec_not, dec_yes, nd_t, nd_f, t_t, t_f, f_t, f_f, true_implies, false_implies, implies_true, and_self, Nat.reduceAdd, Nat.reduceLeDiff, Nat.reduceSub, Nat.reduceLT])
local macro_rules | `(tactic| walk_at "zy") => `(tactic| try simp only [Option.some.injEq, D.int.injEq, D.bl.injEq, D.tup.injEq, D.lst.injEq, D.str.injEq, D.cell.injEq, O.lst.injEq, reduceCtorEq, exists_eq_left', exists_eq_left, false_and, and_false, true_and, and_true, exists_false, or_false, false_or, exists_and_left, exists_eq', exists_and_right, List.cons.injEq, and_assoc, dec_not, dec_yes, nd_t, nd_f, t_t, t_f, f_t, f_f, true_implies, false_implies, implies_true, and_self])
/-! ### drags of one divider in a row: its place, and the least and greatest places it had -/
def gP (f : List Int) (k : Nat) (x mn mx : Int) (j : Nat) : Int := if j ≤ k then min (pre f j) mn else if j = k + 1 then x else max (pre f j) mx
def gdr (s l : List Int) (k : Nat) (x mn mx : Int) : List Int := fl s.length fun i => l.getD i 0 + gP (frs s l) k x mn mx (i + 1) - gP (frs s l) k x mn mx i
/-- within 0 and T -/
def cl (T v : Int) : Int := min (max v 0) T
structure St (T x mn mx : Int) : Prop where
  a : 0 ≤ mn
  b : mn ≤ x
  c : x ≤ mx
  d : mx ≤ T
section
variable {s l f : List Int}
theorem gP_0 {k : Nat} {x mn mx : Int} (h : 0 ≤ mn) : gP f k x mn mx 0 = 0 := by
  unfold gP
  rw [if_pos (Nat.zero_le k), pre_0]
  omega
theorem gP_top {k n : Nat} {x mn mx : Int} (hk : k + 1 < n) (h : mx ≤ pre f n) : gP f k x mn mx n = pre f n := by
  unfold gP
  rw [if_neg (by omega), if_neg (by omega)]
  omega
theorem gP_mono {k i : Nat} {x mn mx : Int} (h0 : ∀ i, i < f.length → 0 ≤ f.getD i 0) (hx : mn ≤ x ∧ x ≤ mx) (hi : i < f.length) : gP f k x mn mx i ≤ gP f k x mn mx (i + 1) := by
  have e1 : pre f i ≤ pre f (i + 1) := pre_mono h0 (by omega) (by omega)
  unfold gP
  by_cases c : i + 1 ≤ k
  · rw [if_pos c, if_pos (show i ≤ k by omega)]; omega
  · rw [if_neg c]
    by_cases c2 : i ≤ k
    · rw [if_pos c2, if_pos (show i + 1 = k + 1 by omega)]; omega
    · rw [if_neg c2, if_neg (show ¬ i + 1 = k + 1 by omega)]
      split <;> omega
theorem gdr_len {k : Nat} {x mn mx : Int} : (gdr s l k x mn mx).length = s.length := fl_len
theorem gdr_get {k i : Nat} {x mn mx : Int} (hi : i < s.length) : (gdr s l k x mn mx).getD i 0 = l.getD i 0 + gP (frs s l) k x mn mx (i + 1) - gP (frs s l) k x mn mx i := by
  unfold gdr
  exact fl_get hi
theorem gdr_rw (R : Rw s l) {k : Nat} {x mn mx : Int} (h : St (frs s l).sum x mn mx) : Rw (gdr s l k x mn mx) l := by
  have fl' := frs_len R.len
  have le : ∀ i, i < s.length → l.getD i 0 ≤ (gdr s l k x mn mx).getD i 0 := fun i hi => by
    rw [gdr_get hi]
    have := gP_mono (k := k) (x := x) (mn := mn) (mx := mx) (frs_nn R) ⟨h.b, h.c⟩ (show i < (frs s l).length by omega)
    omega
  refine ⟨by rw [gdr_len]; exact R.len, by rw [gdr_len]; exact R.two, by rw [gdr_len]; exact R.forty, R.l0, fun y hy => ?_, fun i hi => le i (by rw [gdr_len] at hi; exact hi)⟩
  obtain ⟨i, hi, e⟩ := List.getElem_of_mem hy
  have hi2 : i < s.length := by rw [gdr_len] at hi; exact hi
  have h1 := le i hi2
  have hl : i < l.length := by rw [← R.len]; exact hi2
  have h2 : 0 ≤ l.getD i 0 := by
    rw [List.getD_eq_getElem?_getD, List.getElem?_eq_getElem hl]
    exact R.l0 _ (List.getElem_mem hl)
  rw [List.getD_eq_getElem?_getD (l := gdr s l k x mn mx), List.getElem?_eq_getElem hi, e] at h1
  have h1 : l.getD i 0 ≤ y := h1
  omega
theorem pre_gdr (R : Rw s l) {k : Nat} {x mn mx : Int} (h : St (frs s l).sum x mn mx) : ∀ i, i ≤ s.length → pre (frs (gdr s l k x mn mx) l) i = gP (frs s l) k x mn mx i := by
  have R' := gdr_rw R h (k := k)
  have fl2 := frs_len R'.len
  intro i
  induction i with
  | zero => intro _; rw [pre_0, gP_0 h.a]
  | succ i ih =>
    intro hi
    rw [pre_succ (by rw [fl2, gdr_len]; omega), ih (by omega), frs_get R'.len (by rw [gdr_len]; omega), gdr_get (by omega)]
    omega
theorem sum_gdr (R : Rw s l) {k : Nat} (hk : k + 1 < s.length) {x mn mx : Int} (h : St (frs s l).sum x mn mx) : (frs (gdr s l k x mn mx) l).sum = (frs s l).sum := by
  have R' := gdr_rw R h (k := k)
  have fl2 := frs_len R'.len
  rw [← pre_all, fl2, gdr_len, pre_gdr R h _ (Nat.le_refl _)]
  have e : (frs s l).sum = pre (frs s l) s.length := by rw [← pre_all, frs_len R.len]
  rw [gP_top hk (by rw [← e]; exact h.d), ← e]
theorem sum_gdr2 (R : Rw s l) {k : Nat} (hk : k + 1 < s.length) {x mn mx : Int} (h : St (frs s l).sum x mn mx) : (gdr s l k x mn mx).sum = s.sum := by
  have e := sum_gdr R hk h
  rw [sum_frs (gdr_rw R h).len, sum_frs R.len] at e
  omega
/-- the heights lie so -/
structure Hgt (f : List Int) (k : Nat) : Prop where
  lo : ∀ i, i ≤ k + 1 → pre f i ≤ pre f (k + 1)
  hi : ∀ i, k + 1 ≤ i → i ≤ f.length → pre f (k + 1) ≤ pre f i
  p0 : 0 ≤ pre f (k + 1)
  pT : pre f (k + 1) ≤ f.sum
theorem hgt (R : Rw s l) {k : Nat} (hk : k + 1 < s.length) : Hgt (frs s l) k := by
  have fl' := frs_len R.len
  refine ⟨fun i h => pre_mono (frs_nn R) h (by omega), fun i h1 h2 => pre_mono (frs_nn R) h1 h2, ?_, ?_⟩
  · have := pre_mono (frs_nn R) (Nat.zero_le (k + 1)) (by omega)
    rw [pre_0] at this
    exact this
  · rw [← pre_all]
    exact pre_mono (frs_nn R) (by omega) (Nat.le_refl _)
theorem lim_cl {v T : Int} (h : 0 ≤ T) : lim v 0 T = cl T v := lim_mm h
/-- where the divider stays, all stays -/
theorem gdr_0 (R : Rw s l) {k : Nat} (hk : k + 1 < s.length) {mn mx : Int} (h1 : pre (frs s l) (k + 1) ≤ mn) (h2 : mx ≤ pre (frs s l) (k + 1)) : gdr s l k (pre (frs s l) (k + 1)) mn mx = s := by
  have H := hgt R hk
  have fl' := frs_len R.len
  have key : ∀ i, i ≤ s.length → gP (frs s l) k (pre (frs s l) (k + 1)) mn mx i = pre (frs s l) i := fun i hi => by
    unfold gP
    by_cases c : i ≤ k
    · have := H.lo i (by omega)
      rw [if_pos c]; omega
    · rw [if_neg c]
      by_cases c2 : i = k + 1
      · rw [if_pos c2, c2]
      · have := H.hi i (by omega) (by omega)
        rw [if_neg c2]; omega
  unfold gdr
  refine Eq.trans (fl_congr (g' := fun i => s.getD i 0) fun i hi => ?_) fl_of.symm
  rw [key i (by omega), key (i + 1) (by omega), pre_succ (by omega), frs_get R.len hi]
  omega
/-- one drag more -/
theorem drg_gdr (R : Rw s l) {k : Nat} (hk : k + 1 < s.length) {x mn mx : Int} (h : St (frs s l).sum x mn mx) (h1 : mn ≤ pre (frs s l) (k + 1)) (h2 : pre (frs s l) (k + 1) ≤ mx) {num : Int} :
    drg (gdr s l k x mn mx) l k num = gdr s l k (cl (frs s l).sum (x + num)) (min mn (cl (frs s l).sum (x + num))) (max mx (cl (frs s l).sum (x + num))) := by
  have R' := gdr_rw R h (k := k)
  have H := hgt R hk
  have H' := hgt R' (k := k) (by rw [gdr_len]; exact hk)
  have fl' := frs_len R.len
  have fl2 := frs_len R'.len
  have e0 : pre (frs (gdr s l k x mn mx) l) (k + 1) = x := by
    rw [pre_gdr R h _ (by omega)]
    unfold gP
    rw [if_neg (by omega), if_pos rfl]
  have hT : 0 ≤ (frs s l).sum := by have := h.a; have := h.b; have := h.c; have := h.d; omega
  have key : ∀ i, i ≤ s.length → nwP (frs (gdr s l k x mn mx) l) k (lim (pre (frs (gdr s l k x mn mx) l) (k + 1) + num) 0 (frs (gdr s l k x mn mx) l).sum) i = gP (frs s l) k (cl (frs s l).sum (x + num)) (min mn (cl (frs s l).sum (x + num))) (max mx (cl (frs s l).sum (x + num))) i := fun i hi => by
    have e1 := pre_gdr R h (k := k) i hi
    rw [sum_gdr R hk h, e0, lim_cl hT]
    by_cases c : i ≤ k
    · rw [nwP_lo c (H'.lo i (by omega)), e1]
      unfold gP
      rw [if_pos c, if_pos c]
      omega
    · by_cases c2 : i = k + 1
      · subst c2
        rw [nwP_k]
        unfold gP
        rw [if_neg (by omega), if_pos rfl]
      · rw [nwP_hi (by omega) (H'.hi i (by omega) (by rw [fl2, gdr_len]; exact hi)), e1]
        unfold gP
        rw [if_neg c, if_neg c2, if_neg c, if_neg c2]
        omega
  unfold drg
  rw [gdr_len]
  show fl _ _ = fl _ _
  refine fl_congr fun i hi => ?_
  rw [key i (by omega), key (i + 1) (by omega)]
end
end Bx

namespace Bx
open PySem PySem.Spec PyProof.Rows L2 Z
local macro_rules | `(tactic| walk_at "zz") => `(tactic| simp only [zSeq, zAsg, zRet, zRetN, zIfS, zNext, zDrop, zPar, zPar3, zVar, zC, zOp, zUn, zNeg, zI0, zI, zTest, zAnd, zOr, zNot, zAndV, zOrV, zNotV, zIf, zNil, zCons, zTup, zLst, zLstC, zgName, zgTup, zgCons, zgNil, zgSub, startZ, zCall, zCB, zChain, zIsN, zNotN, zNever,
  zAddA, zMulA, zRepeat, zCat, zIx, seqD, lstD, zMax2, zMin2, zAbs, zLen, zSum, zGcd, zInt, zYes, zBreak, zCont, zMin1, zMax1, zList, zListC, zLcC, zLc, ziR1, ziR2, ziList, ziTup, ziZip, ziEnum, wipeZ, zFor, zSl, zPart, zNoPart, zAppend, zLstR1, zLstR2, zCallBC, zCallBF,
  at0, at1, at2, at3, at4, ix2_3, ix0_3, isNon_int, isNon_non, Bool.not_true, Bool.not_false,
  List.map_cons, List.map_nil, List.length_cons, List.length_nil, List.replicate_succ, List.replicate_zero, List.append_nil, List.nil_append, List.cons_append, List.getElem?_cons_zero, List.getElem?_cons_succ, List.set_cons_zero, List.set_cons_succ,
  Option.some.injEq, D.int.injEq, D.bl.injEq, D.tup.injEq, D.lst.injEq, D.str.injEq, D.cell.injEq, O.lst.injEq, reduceCtorEq, exists_eq_left', exists_eq_left, false_and, and_false, true_and, and_true, exists_false, or_false, false_or, exists_and_left, exists_eq', exists_and_right, List.cons.injEq, and_assoc, dec_not, dec_yes, nd_t, nd_f, t_t, t_f, f_t, f_f, true_implies, false_implies, implies_true, and_self, Nat.reduceAdd, Nat.reduceLeDiff, Nat.reduceSub, Nat.reduceLT])
local macro_rules | `(tactic| walk_at "zy") => `(tactic| try simp only [Option.some.injEq, D.int.injEq, D.bl.injEq, D.tup.injEq, D.lst.injEq, D.str.injEq, D.cell.injEq, O.lst.injEq, reduceCtorEq, exists_eq_left', exists_eq_left, false_and, and_false, true_and, and_true, exists_false, or_false, false_or, exists_and_left, exists_eq', exists_and_right, List.cons.injEq, and_assoc, dec_not, dec_yes, nd_t, nd_f, t_t, t_f, f_t, f_f, true_implies, false_implies, implies_true, and_self])
/-! ### the ways of a divider -/
def fend (T : Int) : List Int → Int → Int
  | [], x => x
  | n :: ns, x => fend T ns (cl T (x + n))
def pmn (T : Int) : List Int → Int → Int
  | [], x => x
  | n :: ns, x => min x (pmn T ns (cl T (x + n)))
def pmx (T : Int) : List Int → Int → Int
  | [], x => x
  | n :: ns, x => max x (pmx T ns (cl T (x + n)))
theorem cl_in {T v : Int} (h : 0 ≤ T) : 0 ≤ cl T v ∧ cl T v ≤ T := by unfold cl; omega
theorem pmn_in {T : Int} (hT : 0 ≤ T) : ∀ (ns : List Int) (x : Int), 0 ≤ x → x ≤ T → 0 ≤ pmn T ns x ∧ pmn T ns x ≤ x ∧ pmn T ns x ≤ fend T ns x
  | [], x, h1, h2 => ⟨h1, Int.le_refl _, Int.le_refl _⟩
  | n :: ns, x, h1, h2 => by
    have q := cl_in (v := x + n) hT
    have ih := pmn_in hT ns (cl T (x + n)) q.1 q.2
    unfold pmn fend
    omega
theorem pmx_in {T : Int} (hT : 0 ≤ T) : ∀ (ns : List Int) (x : Int), 0 ≤ x → x ≤ T → pmx T ns x ≤ T ∧ x ≤ pmx T ns x ∧ fend T ns x ≤ pmx T ns x
  | [], x, h1, h2 => ⟨h2, Int.le_refl _, Int.le_refl _⟩
  | n :: ns, x, h1, h2 => by
    have q := cl_in (v := x + n) hT
    have ih := pmx_in hT ns (cl T (x + n)) q.1 q.2
    unfold pmx fend
    omega
theorem fend_in {T : Int} (hT : 0 ≤ T) (ns : List Int) {x : Int} (h1 : 0 ≤ x) (h2 : x ≤ T) : 0 ≤ fend T ns x ∧ fend T ns x ≤ T := by
  have a := pmn_in hT ns x h1 h2
  have b := pmx_in hT ns x h1 h2
  omega
theorem pmn_mono {T : Int} : ∀ (ns : List Int) {x y : Int}, x ≤ y → pmn T ns x ≤ pmn T ns y
  | [], x, y, h => h
  | n :: ns, x, y, h => by
    have q : cl T (x + n) ≤ cl T (y + n) := by unfold cl; omega
    have ih := pmn_mono (T := T) ns q
    unfold pmn
    omega
theorem pmx_mono {T : Int} : ∀ (ns : List Int) {x y : Int}, x ≤ y → pmx T ns x ≤ pmx T ns y
  | [], x, y, h => h
  | n :: ns, x, y, h => by
    have q : cl T (x + n) ≤ cl T (y + n) := by unfold cl; omega
    have ih := pmx_mono (T := T) ns q
    unfold pmx
    omega
theorem fend_mono {T : Int} : ∀ (ns : List Int) {x y : Int}, x ≤ y → fend T ns x ≤ fend T ns y
  | [], x, y, h => h
  | n :: ns, x, y, h => fend_mono ns (show cl T (x + n) ≤ cl T (y + n) by unfold cl; omega)
theorem fend_form {T : Int} (hT : 0 ≤ T) : ∀ ns : List Int, ∃ a b : Int, 0 ≤ a ∧ a ≤ b ∧ b ≤ T ∧ ∀ x, 0 ≤ x → x ≤ T → fend T ns x = min (max (x + ns.sum) a) b
  | [] => ⟨0, T, Int.le_refl _, hT, Int.le_refl _, fun x h1 h2 => by
      show x = min (max (x + 0) 0) T
      omega⟩
  | n :: ns => by
    obtain ⟨a, b, h1, h2, h3, h4⟩ := fend_form hT ns
    refine ⟨min (max ns.sum a) b, min (max (T + ns.sum) a) b, by omega, by omega, by omega, fun x x1 x2 => ?_⟩
    have q := cl_in (v := x + n) hT
    show fend T ns (cl T (x + n)) = _
    rw [h4 _ q.1 q.2, List.sum_cons]
    unfold cl
    omega
/-- where the divider is behind some rounds -/
def xsr (T : Int) (ns : List Int) (x0 : Int) : Nat → Int
  | 0 => x0
  | m + 1 => fend T ns (xsr T ns x0 m)
theorem xsr_in {T : Int} (hT : 0 ≤ T) (ns : List Int) {x0 : Int} (h1 : 0 ≤ x0) (h2 : x0 ≤ T) : ∀ m, 0 ≤ xsr T ns x0 m ∧ xsr T ns x0 m ≤ T
  | 0 => ⟨h1, h2⟩
  | m + 1 => by
    have ih := xsr_in hT ns h1 h2 m
    exact fend_in hT ns ih.1 ih.2
theorem xsr_way {T : Int} (ns : List Int) {x0 : Int} : (∀ m, xsr T ns x0 m ≤ xsr T ns x0 (m + 1) ∧ x0 ≤ xsr T ns x0 m) ∨ (∀ m, xsr T ns x0 (m + 1) ≤ xsr T ns x0 m ∧ xsr T ns x0 m ≤ x0) := by
  by_cases h : x0 ≤ fend T ns x0
  · left
    intro m
    induction m with
    | zero => exact ⟨h, Int.le_refl _⟩
    | succ m ih => exact ⟨fend_mono ns ih.1, Int.le_trans ih.2 ih.1⟩
  · right
    have h : fend T ns x0 ≤ x0 := by omega
    intro m
    induction m with
    | zero => exact ⟨h, Int.le_refl _⟩
    | succ m ih => exact ⟨fend_mono ns ih.1, Int.le_trans ih.1 ih.2⟩
/-- far behind -/
theorem xsr_far {T : Int} (hT : 0 ≤ T) (ns : List Int) {x0 : Int} (h1 : 0 ≤ x0) (h2 : x0 ≤ T) : ∀ i : Nat, xsr T ns x0 (i + 1) = min (max (fend T ns x0 + (i : Int) * ns.sum) (fend T ns 0)) (fend T ns T) := by
  obtain ⟨a, b, a0, ab, bT, form⟩ := fend_form hT ns
  have e0 := form 0 (Int.le_refl _) hT
  have eT := form T hT (Int.le_refl _)
  have ex := form x0 h1 h2
  intro i
  induction i with
  | zero =>
    show fend T ns x0 = _
    have l1 := fend_mono (T := T) ns h1
    have l2 := fend_mono (T := T) ns h2
    have z : ((0 : Nat) : Int) * ns.sum = 0 := by simp
    rw [z]
    omega
  | succ i ih =>
    show fend T ns (xsr T ns x0 (i + 1)) = _
    have q := xsr_in hT ns h1 h2 (i + 1)
    rw [form _ q.1 q.2, ih]
    have e1 : ((i + 1 : Nat) : Int) * ns.sum = (i : Int) * ns.sum + ns.sum := by
      rw [Int.natCast_add, Int.add_mul]
      simp
    rw [e1]
    have s1 : 0 ≤ ns.sum → 0 ≤ (i : Int) * ns.sum := fun h => Int.mul_nonneg (by omega) h
    have s2 : ns.sum ≤ 0 → (i : Int) * ns.sum ≤ 0 := fun h => Int.mul_nonpos_of_nonneg_of_nonpos (by omega) h
    generalize (i : Int) * ns.sum = t at *
    omega
section
variable {s l : List Int}
def rnd (l : List Int) (k : Nat) (ns : List Int) (s : List Int) : List Int := ns.foldl (fun s n => drg s l k n) s
def itr (l : List Int) (k : Nat) (ns : List Int) (s : List Int) : Nat → List Int
  | 0 => s
  | m + 1 => rnd l k ns (itr l k ns s m)
theorem rnd_gdr (R : Rw s l) {k : Nat} (hk : k + 1 < s.length) : ∀ (ns : List Int) {x mn mx : Int}, St (frs s l).sum x mn mx → mn ≤ pre (frs s l) (k + 1) → pre (frs s l) (k + 1) ≤ mx →
    rnd l k ns (gdr s l k x mn mx) = gdr s l k (fend (frs s l).sum ns x) (min mn (pmn (frs s l).sum ns x)) (max mx (pmx (frs s l).sum ns x))
  | [], x, mn, mx, h, h1, h2 => by
    have := h.b
    have := h.c
    show gdr s l k x mn mx = gdr s l k x (min mn x) (max mx x)
    rw [show min mn x = mn by omega, show max mx x = mx by omega]
  | n :: ns, x, mn, mx, h, h1, h2 => by
    have q1 := h.a
    have q2 := h.b
    have q3 := h.c
    have q4 := h.d
    have hT : 0 ≤ (frs s l).sum := by omega
    have q := cl_in (v := x + n) hT
    show rnd l k ns (drg (gdr s l k x mn mx) l k n) = _
    rw [drg_gdr R hk h h1 h2, rnd_gdr R hk ns ⟨by omega, by omega, by omega, by omega⟩ (by omega) (by omega)]
    show gdr s l k (fend (frs s l).sum ns (cl (frs s l).sum (x + n))) _ _ = gdr s l k (fend (frs s l).sum ns (cl (frs s l).sum (x + n))) (min mn (min x (pmn (frs s l).sum ns (cl (frs s l).sum (x + n))))) (max mx (max x (pmx (frs s l).sum ns (cl (frs s l).sum (x + n)))))
    have p1 := pmn_in hT ns _ q.1 q.2
    have p2 := pmx_in hT ns _ q.1 q.2
    congr 1 <;> omega
theorem itr_eq (R : Rw s l) {k : Nat} (hk : k + 1 < s.length) (ns : List Int) : ∀ m : Nat, itr l k ns s (m + 1) =
    gdr s l k (xsr (frs s l).sum ns (pre (frs s l) (k + 1)) (m + 1)) (min (pmn (frs s l).sum ns (pre (frs s l) (k + 1))) (pmn (frs s l).sum ns (xsr (frs s l).sum ns (pre (frs s l) (k + 1)) m)))
      (max (pmx (frs s l).sum ns (pre (frs s l) (k + 1))) (pmx (frs s l).sum ns (xsr (frs s l).sum ns (pre (frs s l) (k + 1)) m))) := by
  have H := hgt R hk
  have hT := sum_nn R
  have b1 := pmn_in hT ns _ H.p0 H.pT
  have b2 := pmx_in hT ns _ H.p0 H.pT
  intro m
  induction m with
  | zero =>
    show rnd l k ns s = _
    have e := gdr_0 R hk (Int.le_refl _) (Int.le_refl _)
    have h := rnd_gdr R hk ns (x := pre (frs s l) (k + 1)) (mn := pre (frs s l) (k + 1)) (mx := pre (frs s l) (k + 1)) ⟨H.p0, Int.le_refl _, Int.le_refl _, H.pT⟩ (Int.le_refl _) (Int.le_refl _)
    rw [e] at h
    rw [h]
    show gdr s l k (fend (frs s l).sum ns (pre (frs s l) (k + 1))) _ _ = gdr s l k (fend (frs s l).sum ns (pre (frs s l) (k + 1))) (min (pmn (frs s l).sum ns (pre (frs s l) (k + 1))) (pmn (frs s l).sum ns (pre (frs s l) (k + 1)))) (max (pmx (frs s l).sum ns (pre (frs s l) (k + 1))) (pmx (frs s l).sum ns (pre (frs s l) (k + 1))))
    congr 1 <;> omega
  | succ m ih =>
    show rnd l k ns (itr l k ns s (m + 1)) = _
    rw [ih]
    have x1 := xsr_in hT ns H.p0 H.pT m
    have x2 := xsr_in hT ns H.p0 H.pT (m + 1)
    have c1 := pmn_in hT ns _ x1.1 x1.2
    have c2 := pmx_in hT ns _ x1.1 x1.2
    have e : xsr (frs s l).sum ns (pre (frs s l) (k + 1)) (m + 1) = fend (frs s l).sum ns (xsr (frs s l).sum ns (pre (frs s l) (k + 1)) m) := rfl
    rw [rnd_gdr R hk ns ⟨by omega, by omega, by omega, by omega⟩ (by omega) (by omega)]
    show gdr s l k (fend (frs s l).sum ns (xsr (frs s l).sum ns (pre (frs s l) (k + 1)) (m + 1))) _ _ = gdr s l k (fend (frs s l).sum ns (xsr (frs s l).sum ns (pre (frs s l) (k + 1)) (m + 1))) _ _
    rcases xsr_way (T := (frs s l).sum) ns (x0 := pre (frs s l) (k + 1)) with w | w
    · have w1 := (w m).1
      have w2 := (w m).2
      have y1 := pmn_mono (T := (frs s l).sum) ns w1
      have y2 := pmn_mono (T := (frs s l).sum) ns w2
      have y3 := pmx_mono (T := (frs s l).sum) ns w1
      have y4 := pmx_mono (T := (frs s l).sum) ns w2
      congr 1 <;> omega
    · have w1 := (w m).1
      have w2 := (w m).2
      have y1 := pmn_mono (T := (frs s l).sum) ns w1
      have y2 := pmn_mono (T := (frs s l).sum) ns w2
      have y3 := pmx_mono (T := (frs s l).sum) ns w1
      have y4 := pmx_mono (T := (frs s l).sum) ns w2
      congr 1 <;> omega
theorem rnd_rw (R : Rw s l) {k : Nat} (hk : k + 1 < s.length) (ns : List Int) : Rw (rnd l k ns s) l ∧ (rnd l k ns s).length = s.length ∧ (rnd l k ns s).sum = s.sum := by
  induction ns generalizing s with
  | nil => exact ⟨R, rfl, rfl⟩
  | cons n ns ih =>
    have R' := drg_rw R hk (a := n)
    have := ih R' (by rw [drg_len]; exact hk)
    exact ⟨this.1, this.2.1.trans drg_len, this.2.2.trans (sum_drg2 R hk)⟩
theorem itr_rw (R : Rw s l) {k : Nat} (hk : k + 1 < s.length) (ns : List Int) : ∀ m, Rw (itr l k ns s m) l ∧ (itr l k ns s m).length = s.length ∧ (itr l k ns s m).sum = s.sum
  | 0 => ⟨R, rfl, rfl⟩
  | m + 1 => by
    have ih := itr_rw R hk ns m
    have := rnd_rw ih.1 (by rw [ih.2.1]; exact hk) ns
    exact ⟨this.1, this.2.1.trans ih.2.1, this.2.2.trans ih.2.2⟩
theorem itr_add {k : Nat} (ns : List Int) (a : Nat) : ∀ b, itr l k ns (itr l k ns s a) b = itr l k ns s (a + b)
  | 0 => rfl
  | b + 1 => by
    show rnd l k ns (itr l k ns (itr l k ns s a) b) = rnd l k ns (itr l k ns s (a + b))
    rw [itr_add ns a b]
end
end Bx

namespace Bx
open PySem PySem.Spec PyProof.Rows L2 Z
local macro_rules | `(tactic| walk_at "zz") => `(tactic| simp only [zSeq, zAsg, zRet, zRetN, zIfS, zNext, zDrop, zPar, zPar3, zVar, zC, zOp, zUn, zNeg, zI0, zI, zTest, zAnd, zOr, zNot, zAndV, zOrV, zNotV, zIf, zNil, zCons, zTup, zLst, zLstC, zgName, zgTup, zgCons, zgNil, zgSub, startZ, zCall, zCB, zChain, zIsN, zNotN, zNever,
  zAddA, zMulA, zRepeat, zCat, zIx, seqD, lstD, zMax2, zMin2, zAbs, zLen, zSum, zGcd, zInt, zYes, zBreak, zCont, zMin1, zMax1, zList, zListC, zLcC, zLc, ziR1, ziR2, ziList, ziTup, ziZip, ziEnum, wipeZ, zFor, zSl, zPart, zNoPart, zAppend, zLstR1, zLstR2, zCallBC, zCallBF,
  at0, at1, at2, at3, at4, ix2_3, ix0_3, isNon_int, isNon_non, Bool.not_true, Bool.not_false,
  List.map_cons, List.map_nil, List.length_cons, List.length_nil, List.replicate_succ, List.replicate_zero, List.append_nil, List.nil_append, List.cons_append, List.getElem?_cons_zero, List.getElem?_cons_succ, List.set_cons_zero, List.set_cons_succ,
  Option.some.injEq, D.int.injEq, D.bl.injEq, D.tup.injEq, D.lst.injEq, D.str.injEq, D.cell.injEq, O.lst.injEq, reduceCtorEq, exists_eq_left', exists_eq_left, false_and, and_false, true_and, and_true, exists_false, or_false, false_or, exists_and_left, exists_eq', exists_and_right, List.cons.injEq, and_assoc, dec_not, dec_yes, nd_t, nd_f, t_t, t_f, f_t, f_f, true_implies, false_implies, implies_true, and_self, Nat.reduceAdd, Nat.reduceLeDiff, Nat.reduceSub, Nat.reduceLT])
local macro_rules | `(tactic| walk_at "zy") => `(tactic| try simp only [Option.some.injEq, D.int.injEq, D.bl.injEq, D.tup.injEq, D.lst.injEq, D.str.injEq, D.cell.injEq, O.lst.injEq, reduceCtorEq, exists_eq_left', exists_eq_left, false_and, and_false, true_and, and_true, exists_false, or_false, false_or, exists_and_left, exists_eq', exists_and_right, List.cons.injEq, and_assoc, dec_not, dec_yes, nd_t, nd_f, t_t, t_f, f_t, f_f, true_implies, false_implies, implies_true, and_self])
def pth (T : Int) : List Int → Int → List Int
  | [], x => [x]
  | n :: ns, x => x :: pth T ns (cl T (x + n))
theorem pth_snoc {T : Int} : ∀ (ns : List Int) (n x : Int), pth T (ns ++ [n]) x = pth T ns x ++ [cl T (fend T ns x + n)]
  | [], n, x => rfl
  | m :: ns, n, x => by
    show x :: pth T (ns ++ [n]) (cl T (x + m)) = x :: pth T ns (cl T (x + m)) ++ [_]
    rw [pth_snoc ns]
    rfl
theorem pth_len {T : Int} : ∀ (ns : List Int) (x : Int), (pth T ns x).length = ns.length + 1
  | [], x => rfl
  | m :: ns, x => by
    show (pth T ns _).length + 1 = _
    rw [pth_len ns]
    rfl
theorem pth_last {T : Int} : ∀ (ns : List Int) (x : Int), (pth T ns x)[ns.length]? = some (fend T ns x)
  | [], x => rfl
  | m :: ns, x => by
    show (x :: pth T ns (cl T (x + m)))[ns.length + 1]? = _
    rw [List.getElem?_cons_succ]
    exact pth_last ns _
theorem pth_min {T : Int} : ∀ (ns : List Int) (x : Int), pmn T ns x ∈ pth T ns x ∧ ∀ y ∈ pth T ns x, pmn T ns x ≤ y
  | [], x => ⟨List.mem_singleton.mpr rfl, fun y hy => by rw [List.mem_singleton.mp hy]; exact Int.le_refl _⟩
  | n :: ns, x => by
    obtain ⟨h1, h2⟩ := pth_min (T := T) ns (cl T (x + n))
    show min x (pmn T ns (cl T (x + n))) ∈ x :: pth T ns (cl T (x + n)) ∧ ∀ y ∈ x :: pth T ns (cl T (x + n)), min x (pmn T ns (cl T (x + n))) ≤ y
    refine ⟨?_, fun y hy => ?_⟩
    · by_cases c : x ≤ pmn T ns (cl T (x + n))
      · rw [show min x (pmn T ns (cl T (x + n))) = x by omega]; exact List.mem_cons_self
      · rw [show min x (pmn T ns (cl T (x + n))) = pmn T ns (cl T (x + n)) by omega]; exact List.mem_cons_of_mem _ h1
    · rcases List.mem_cons.mp hy with rfl | hy
      · omega
      · have := h2 y hy; omega
theorem pth_max {T : Int} : ∀ (ns : List Int) (x : Int), pmx T ns x ∈ pth T ns x ∧ ∀ y ∈ pth T ns x, y ≤ pmx T ns x
  | [], x => ⟨List.mem_singleton.mpr rfl, fun y hy => by rw [List.mem_singleton.mp hy]; exact Int.le_refl _⟩
  | n :: ns, x => by
    obtain ⟨h1, h2⟩ := pth_max (T := T) ns (cl T (x + n))
    show max x (pmx T ns (cl T (x + n))) ∈ x :: pth T ns (cl T (x + n)) ∧ ∀ y ∈ x :: pth T ns (cl T (x + n)), y ≤ max x (pmx T ns (cl T (x + n)))
    refine ⟨?_, fun y hy => ?_⟩
    · by_cases c : pmx T ns (cl T (x + n)) ≤ x
      · rw [show max x (pmx T ns (cl T (x + n))) = x by omega]; exact List.mem_cons_self
      · rw [show max x (pmx T ns (cl T (x + n))) = pmx T ns (cl T (x + n)) by omega]; exact List.mem_cons_of_mem _ h1
    · rcases List.mem_cons.mp hy with rfl | hy
      · omega
      · have := h2 y hy; omega
theorem two_min {T : Int} (ns : List Int) (x y m : Int) (h1 : m ∈ pth T ns x ++ pth T ns y) (h2 : ∀ z, z ∈ pth T ns x ++ pth T ns y → m ≤ z) : m = min (pmn T ns x) (pmn T ns y) := by
  have a := pth_min (T := T) ns x
  have b := pth_min (T := T) ns y
  have c1 := h2 _ (List.mem_append_left _ a.1)
  have c2 := h2 _ (List.mem_append_right _ b.1)
  rcases List.mem_append.mp h1 with h | h
  · have := a.2 _ h; omega
  · have := b.2 _ h; omega
theorem two_max {T : Int} (ns : List Int) (x y m : Int) (h1 : m ∈ pth T ns x ++ pth T ns y) (h2 : ∀ z, z ∈ pth T ns x ++ pth T ns y → z ≤ m) : m = max (pmx T ns x) (pmx T ns y) := by
  have a := pth_max (T := T) ns x
  have b := pth_max (T := T) ns y
  have c1 := h2 _ (List.mem_append_left _ a.1)
  have c2 := h2 _ (List.mem_append_right _ b.1)
  rcases List.mem_append.mp h1 with h | h
  · have := a.2 _ h; omega
  · have := b.2 _ h; omega
def swl (h : List Int) (k : Nat) (x mn mx : Int) : List Int := ((h.take k).map fun o => if mn < o then mn else o) ++ [x] ++ ((h.drop (k + 1)).map fun o => if mx > o then mx else o)
theorem swl_len {h : List Int} {k : Nat} {x mn mx : Int} (hk : k < h.length) : (swl h k x mn mx).length = h.length := by unfold swl; simp; omega
theorem swl_get {h : List Int} {k i : Nat} {x mn mx : Int} (hk : k < h.length) (hi : i < h.length) : (swl h k x mn mx).getD i 0 = if i < k then min (h.getD i 0) mn else if i = k then x else max (h.getD i 0) mx := by
  unfold swl
  rw [List.append_assoc, getD_app, List.length_map, List.length_take, Nat.min_eq_left (by omega)]
  by_cases c : i < k
  · rw [if_pos c, if_pos c, getD_map (by rw [List.length_take]; omega), getD_take c]
    split <;> omega
  · rw [if_neg c, if_neg c, getD_app]
    simp only [List.length_cons, List.length_nil]
    by_cases c2 : i = k
    · rw [if_pos c2, if_pos (by omega), c2, Nat.sub_self]; rfl
    · rw [if_neg c2, if_neg (by omega), getD_map (by rw [List.length_drop]; omega), getD_drop, show k + 1 + (i - k - (0 + 1)) = i by omega]
      split <;> omega
theorem ends_swl {f : List Int} {k j : Nat} {x mn mx : Int} (hk : k + 1 < f.length) (hj : j ≤ f.length) (h : 0 ≤ mn) (h2 : mx ≤ f.sum) : ([0] ++ swl (hts f) k x mn mx ++ [f.sum]).getD j 0 = gP f k x mn mx j := by
  have hl : (swl (hts f) k x mn mx).length = f.length - 1 := by rw [swl_len (by rw [hts_len]; omega), hts_len]
  rw [getD_app, List.length_append, hl]
  simp only [List.length_cons, List.length_nil]
  by_cases h0 : j = 0
  · subst h0
    rw [if_pos (by omega), gP_0 h]
    rfl
  · by_cases hn : j = f.length
    · subst hn
      rw [if_neg (by omega), show f.length - (0 + 1 + (f.length - 1)) = 0 by omega]
      unfold gP
      rw [if_neg (by omega), if_neg (by omega), pre_all]
      show f.sum = _
      omega
    · rw [if_pos (by omega), getD_app, if_neg (by simp; omega)]
      simp only [List.length_cons, List.length_nil]
      rw [swl_get (by rw [hts_len]; omega) (by rw [hts_len]; omega), hts_get (by omega), show j - (0 + 1) + 1 = j by omega]
      unfold gP
      by_cases c : j ≤ k
      · rw [if_pos c, if_pos (by omega)]
      · rw [if_neg c, if_neg (by omega)]
        by_cases c2 : j = k + 1
        · rw [if_pos c2, if_pos (by omega)]
        · rw [if_neg c2, if_neg (by omega)]
theorem swt_swl {s l : List Int} (R : Rw s l) {k : Nat} (hk : k + 1 < s.length) {x mn mx : Int} (h : 0 ≤ mn) (h2 : mx ≤ (frs s l).sum) : swt (swl (hts (frs s l)) k x mn mx) l s.sum = gdr s l k x mn mx := by
  have fl' := frs_len R.len
  unfold swt gdr
  rw [← sum_frs R.len]
  apply List.ext_getElem?
  intro i
  by_cases hi : i < s.length
  · have hi2 : i < l.length := by rw [← R.len]; exact hi
    rw [fl_get? hi, List.getElem?_map, List.getElem?_zipIdx, List.getElem?_eq_getElem hi2]
    show some _ = some _
    simp only [Nat.zero_add]
    rw [ends_swl (by omega) (by omega) h h2, ends_swl (by omega) (by omega) h h2, List.getD_eq_getElem?_getD (l := l), List.getElem?_eq_getElem hi2]
    rfl
  · rw [List.getElem?_eq_none (by rw [List.length_map, List.length_zipIdx, ← R.len]; omega), List.getElem?_eq_none (by rw [fl_len]; omega)]
end Bx

namespace Bx
open PySem PySem.Spec PyProof.Rows L2 Z
local macro_rules | `(tactic| walk_at "zz") => `(tactic| simp only [zSeq, zAsg, zRet, zRetN, zIfS, zNext, zDrop, zPar, zPar3, zVar, zC, zOp, zUn, zNeg, zI0, zI, zTest, zAnd, zOr, zNot, zAndV, zOrV, zNotV, zIf, zNil, zCons, zTup, zLst, zLstC, zgName, zgTup, zgCons, zgNil, zgSub, startZ, zCall, zCB, zChain, zIsN, zNotN, zNever,
  zAddA, zMulA, zRepeat, zCat, zIx, seqD, lstD, zMax2, zMin2, zAbs, zLen, zSum, zGcd, zInt, zYes, zBreak, zCont, zMin1, zMax1, zList, zListC, zLcC, zLc, ziR1, ziR2, ziList, ziTup, ziZip, ziEnum, wipeZ, zFor, zSl, zPart, zNoPart, zAppend, zLstR1, zLstR2, zCallBC, zCallBF,
  at0, at1, at2, at3, at4, ix2_3, ix0_3, isNon_int, isNon_non, Bool.not_true, Bool.not_false,
  List.map_cons, List.map_nil, List.length_cons, List.length_nil, List.replicate_succ, List.replicate_zero, List.append_nil, List.nil_append, List.cons_append, List.getElem?_cons_zero, List.getElem?_cons_succ, List.set_cons_zero, List.set_cons_succ,
  Option.some.injEq, D.int.injEq, D.bl.injEq, D.tup.injEq, D.lst.injEq, D.str.injEq, D.cell.injEq, O.lst.injEq, reduceCtorEq, exists_eq_left', exists_eq_left, false_and, and_false, true_and, and_true, exists_false, or_false, false_or, exists_and_left, exists_eq', exists_and_right, List.cons.injEq, and_assoc, dec_not, dec_yes, nd_t, nd_f, t_t, t_f, f_t, f_f, true_implies, false_implies, implies_true, and_self, Nat.reduceAdd, Nat.reduceLeDiff, Nat.reduceSub, Nat.reduceLT])
local macro_rules | `(tactic| walk_at "zy") => `(tactic| try simp only [Option.some.injEq, D.int.injEq, D.bl.injEq, D.tup.injEq, D.lst.injEq, D.str.injEq, D.cell.injEq, O.lst.injEq, reduceCtorEq, exists_eq_left', exists_eq_left, false_and, and_false, true_and, and_true, exists_false, or_false, false_or, exists_and_left, exists_eq', exists_and_right, List.cons.injEq, and_assoc, dec_not, dec_yes, nd_t, nd_f, t_t, t_f, f_t, f_f, true_implies, false_implies, implies_true, and_self])
theorem atI_last {xs : List D} {n : Nat} {d : D} (hn : xs.length = n + 1) (h : xs[n]? = some d) : atI xs (-1) = some d := by
  unfold atI ixN
  rw [hn, if_neg (by omega), if_pos (by omega), show ((-1 : Int) + ((n + 1 : Nat) : Int)).toNat = n by omega]
  exact h
def drD (k : Nat) (ns : List Int) : List D := ns.map fun n => D.tup [.int (k : Int), .int n]
section
variable {K : PySem.W.Frag} {C : CI} {Δ Δ' : Store} {P : D → Store → Prop} {d d2 : D} {s l f ns : List Int}
theorem path_ok {T x : Int} (hT : 0 ≤ T) (hn : ns.length ≤ 100) (p : P (.cell Δ.length) (Δ ++ [.lst (isD (pth T ns x))])) : W_path_of K C [.int x, .lst (isD ns), .int T] Δ P := by
  unfold W_path_of z_path_of
  refine ⟨rfl, ?_⟩
  refine seq_cut fun rest hr => ?_
  walk_at "zz"
  subst hr
  refine seq_cut fun rest hr => ?_
  refine for_cut fun body hB => ?_
  walk_at "zz"
  refine loop_inv (fun i Γ E => ∃ u4, E = Δ ++ [.lst (isD (pth T (ns.take i) x))] ∧ Γ = [some (.int x), some (.lst (isD ns)), some (.int T), some (.cell Δ.length), u4]) _ 0 _ _ ⟨none, rfl, rfl⟩ ?_ ?_
  · rintro i y Γ E Ze hy ⟨u4, rfl, rfl⟩ hnx _ _ _
    rw [Nat.zero_add] at *
    have il : i < ns.length := by
      have := (List.getElem?_eq_some_iff.mp hy).1
      rw [isD_len] at this
      exact this
    rw [ints_get (List.getElem?_eq_getElem il)] at hy
    cases hy
    have e : ns.take (i + 1) = ns.take i ++ [ns[i]] := by rw [List.take_add_one, List.getElem?_eq_getElem il]; rfl
    subst hB
    simp only [zgName, List.set_cons_succ, List.set_cons_zero]
    walk_at "zz"
    simp only [last_at, Option.some.injEq, exists_eq_left', O.lst.injEq]
    have lt : (ns.take i).length = i := by rw [List.length_take]; omega
    have hl : (isD (pth T (ns.take i) x)).length = i + 1 := by rw [isD_len, pth_len, lt]
    have hlast : (isD (pth T (ns.take i) x))[i]? = some (.int (fend T (ns.take i) x)) := ints_get (by have := pth_last (T := T) (ns.take i) x; rw [lt] at this; exact this)
    refine ⟨⟨_, rfl⟩, _, atI_last hl hlast, ?_⟩
    try walk_at "zz"
    refine limited_ok ?_
    try walk_at "zz"
    refine ⟨_, last_at, by omega, ?_⟩
    rw [set_last]
    refine hnx _ _ ⟨_, ?_, rfl⟩
    rw [e, pth_snoc, isD_snoc, lim_cl hT]
  · rintro Γ E ⟨u4, rfl, rfl⟩
    rw [Nat.zero_add, isD_len, List.take_length]
    show rest _ _
    subst hr
    walk_at "zz"
    exact p
end
end Bx

namespace Bx
open PySem PySem.Spec PyProof.Rows L2 Z
local macro_rules | `(tactic| walk_at "zz") => `(tactic| simp only [zSeq, zAsg, zRet, zRetN, zIfS, zNext, zDrop, zPar, zPar3, zVar, zC, zOp, zUn, zNeg, zI0, zI, zTest, zAnd, zOr, zNot, zAndV, zOrV, zNotV, zIf, zNil, zCons, zTup, zLst, zLstC, zgName, zgTup, zgCons, zgNil, zgSub, startZ, zCall, zCB, zChain, zIsN, zNotN, zNever,
  zAddA, zMulA, zRepeat, zCat, zIx, seqD, lstD, zMax2, zMin2, zAbs, zLen, zSum, zGcd, zInt, zYes, zBreak, zCont, zMin1, zMax1, zList, zListC, zLcC, zLc, ziR1, ziR2, ziList, ziTup, ziZip, ziEnum, wipeZ, zFor, zSl, zPart, zNoPart, zAppend, zLstR1, zLstR2, zCallBC, zCallBF,
  at0, at1, at2, at3, at4, ix2_3, ix0_3, isNon_int, isNon_non, Bool.not_true, Bool.not_false,
  List.map_cons, List.map_nil, List.length_cons, List.length_nil, List.replicate_succ, List.replicate_zero, List.append_nil, List.nil_append, List.cons_append, List.getElem?_cons_zero, List.getElem?_cons_succ, List.set_cons_zero, List.set_cons_succ,
  Option.some.injEq, D.int.injEq, D.bl.injEq, D.tup.injEq, D.lst.injEq, D.str.injEq, D.cell.injEq, O.lst.injEq, reduceCtorEq, exists_eq_left', exists_eq_left, false_and, and_false, true_and, and_true, exists_false, or_false, false_or, exists_and_left, exists_eq', exists_and_right, List.cons.injEq, and_assoc, dec_not, dec_yes, nd_t, nd_f, t_t, t_f, f_t, f_f, true_implies, false_implies, implies_true, and_self, Nat.reduceAdd, Nat.reduceLeDiff, Nat.reduceSub, Nat.reduceLT])
local macro_rules | `(tactic| walk_at "zy") => `(tactic| try simp only [Option.some.injEq, D.int.injEq, D.bl.injEq, D.tup.injEq, D.lst.injEq, D.str.injEq, D.cell.injEq, O.lst.injEq, reduceCtorEq, exists_eq_left', exists_eq_left, false_and, and_false, true_and, and_true, exists_false, or_false, false_or, exists_and_left, exists_eq', exists_and_right, List.cons.injEq, and_assoc, dec_not, dec_yes, nd_t, nd_f, t_t, t_f, f_t, f_f, true_implies, false_implies, implies_true, and_self])
section
variable {K : PySem.W.Frag} {C : CI} {Δ Δ' : Store} {P : D → Store → Prop} {d d2 : D} {s l f ns : List Int}
theorem Ls.at_ {c : Nat} (h : Δ[c]? = some (.lst (isD s))) : Ls Δ (.cell c) s := .inr ⟨c, rfl, h⟩
theorem swung_ok {h : List Int} {k m : Nat} {T x0 : Int} (hk : k < h.length) (h40 : h.length ≤ 100) (e0 : h.getD k 0 = x0) (x1 : 0 ≤ x0) (x2 : x0 ≤ T) (hn : ns.length ≤ 100) (hS : ns.sum.natAbs < 2 ^ 200) (hm : (m : Int) < 10 ^ 30)
    (p : ∀ r, P (.lst (isD (swl h k (xsr T ns x0 (m + 1)) (min (pmn T ns x0) (pmn T ns (xsr T ns x0 m))) (max (pmx T ns x0) (pmx T ns (xsr T ns x0 m)))))) (Δ ++ r)) : W_swung K C [.lst (isD h), .int T, .int (k : Int), .lst (isD ns), .int ((m + 1 : Nat) : Int)] Δ P := by
  have hT : 0 ≤ T := by omega
  have far := xsr_far hT ns x1 x2
  unfold W_swung z_swung
  refine ⟨rfl, ?_⟩
  refine seq_cut fun rest hr => ?_
  walk_at "zz"
  rw [atI_ints hk, e0]
  try walk_at "zz"
  refine path_ok hT hn ?_
  subst hr
  refine seq_cut fun rest hr => ?_
  walk_at "zz"
  rw [atI_ints hk, e0]
  try walk_at "zz"
  subst hr
  refine seq_cut fun rest hr => ?_
  -- behind the start
  have after : ∀ (r : Store) (u7 u8 : Option D), rest [some (.lst (isD h)), some (.int T), some (.int (k : Int)), some (.lst (isD ns)), some (.int ((m + 1 : Nat) : Int)), some (.cell Δ.length), some (.int (xsr T ns x0 m)), u7, u8, none, none, none] (Δ ++ [.lst (isD (pth T ns x0))] ++ r) := by
    intro r u7 u8
    subst hr
    have hE : (Δ ++ [.lst (isD (pth T ns x0))] ++ r)[Δ.length]? = some (.lst (isD (pth T ns x0))) := by rw [List.getElem?_append_left (by simp)]; exact last_at
    have eE : Δ ++ [.lst (isD (pth T ns x0))] ++ r = Δ ++ ([.lst (isD (pth T ns x0))] ++ r) := List.append_assoc _ _ _
    generalize Δ ++ [.lst (isD (pth T ns x0))] ++ r = E at *
    refine seq_cut fun rest hr => ?_
    walk_at "zz"
    refine path_ok hT hn ?_
    have c1 := xsr_in hT ns x1 x2 m
    have l1 := ((Ls.at_ hE).app [.lst (isD (pth T ns (xsr T ns x0 m)))]).lst
    have l2 := (Ls.last (Δ := E) (s := pth T ns (xsr T ns x0 m))).lst
    refine ⟨_, l1, _, l2, by rw [isD_len, isD_len, pth_len, pth_len]; omega, ?_⟩
    have ec : isD (pth T ns x0) ++ isD (pth T ns (xsr T ns x0 m)) = isD (pth T ns x0 ++ pth T ns (xsr T ns x0 m)) := by unfold isD; rw [List.map_append]
    rw [ec]
    have pne : pth T ns x0 ++ pth T ns (xsr T ns x0 m) ≠ [] := fun q => by
      have := congrArg List.length q
      rw [List.length_append, pth_len, pth_len] at this
      simp at this
    have mnE : ∀ mm, mm ∈ pth T ns x0 ++ pth T ns (xsr T ns x0 m) → (∀ y, y ∈ pth T ns x0 ++ pth T ns (xsr T ns x0 m) → mm ≤ y) → mm = min (pmn T ns x0) (pmn T ns (xsr T ns x0 m)) := fun mm h1 h2 => two_min ns _ _ _ h1 h2
    have mxE : ∀ mm, mm ∈ pth T ns x0 ++ pth T ns (xsr T ns x0 m) → (∀ y, y ∈ pth T ns x0 ++ pth T ns (xsr T ns x0 m) → y ≤ mm) → mm = max (pmx T ns x0) (pmx T ns (xsr T ns x0 m)) := fun mm h1 h2 => two_max ns _ _ _ h1 h2
    have lastE : (isD (pth T ns x0 ++ pth T ns (xsr T ns x0 m)))[2 * ns.length + 1]? = some (.int (xsr T ns x0 (m + 1))) := by
      refine ints_get ?_
      rw [List.getElem?_append_right (by rw [pth_len]; omega), pth_len, show 2 * ns.length + 1 - (ns.length + 1) = ns.length by omega]
      exact pth_last ns _
    have lenE : (isD (pth T ns x0 ++ pth T ns (xsr T ns x0 m))).length = 2 * ns.length + 1 + 1 := by rw [isD_len, List.length_append, pth_len, pth_len]; omega
    have pF := p (([.lst (isD (pth T ns x0))] ++ r) ++ [.lst (isD (pth T ns (xsr T ns x0 m)))])
    rw [← List.append_assoc, ← eE] at pF
    generalize E ++ [.lst (isD (pth T ns (xsr T ns x0 m)))] = F at *
    generalize pth T ns x0 ++ pth T ns (xsr T ns x0 m) = path at *
    generalize xsr T ns x0 (m + 1) = xe at *
    generalize min (pmn T ns x0) (pmn T ns (xsr T ns x0 m)) = mn at *
    generalize max (pmx T ns x0) (pmx T ns (xsr T ns x0 m)) = mx at *
    subst hr
    refine seq_cut fun rest hr => ?_
    walk_at "zz"
    rw [cut_to]
    unfold isD
    refine comp_map (f := fun o : Int => D.int (if mn < o then mn else o)) (h.take k) [] (by simp; omega) (fun o ho Q q => ?_) ?_
    · walk_at "zz"
      refine ⟨path, rfl, pne, fun mm h1 h2 => ?_⟩
      rw [mnE mm h1 h2]
      exact q
    rw [List.nil_append]
    subst hr
    walk_at "zz"
    have ec2 : Z.cutD (List.map D.int h) (some ((k : Int) + 1)) none = (h.drop (k + 1)).map D.int := by
      rw [show ((k : Int) + 1) = ((k + 1 : Nat) : Int) by omega]
      exact cut_from
    rw [ec2]
    refine ⟨_, atI_last lenE lastE, by simp; omega, ?_⟩
    refine comp_map (f := fun o : Int => D.int (if mx > o then mx else o)) (h.drop (k + 1)) [] (by simp; omega) (fun o ho Q q => ?_) ?_
    · walk_at "zz"
      refine ⟨path, rfl, pne, fun mm h1 h2 => ?_⟩
      rw [mxE mm h1 h2]
      exact q
    rw [List.nil_append]
    refine ⟨_, rfl, by simp; omega, ?_⟩
    have es : isD (swl h k xe mn mx) = List.map (fun o => D.int (if mn < o then mn else o)) (List.take k h) ++ [D.int xe] ++ List.map (fun o => D.int (if mx > o then mx else o)) (List.drop (k + 1) h) := by
      unfold swl isD
      rw [List.map_append, List.map_append, List.map_map, List.map_map]
      rfl
    rw [es] at pF
    exact pF
  walk_at "zz"
  refine ⟨fun h1 => ?_, fun h1 => ?_⟩
  · refine path_ok hT hn ?_
    have la : ∀ z : Int, atI (isD (pth T ns z)) (-1) = some (.int (fend T ns z)) := fun z => atI_last (n := ns.length) (by rw [isD_len, pth_len]) (ints_get (pth_last ns z))
    refine ⟨_, Ls.last.seq, _, la _, ?_⟩
    refine path_ok hT hn ?_
    refine ⟨_, Ls.last.seq, _, la _, ?_⟩
    refine ⟨_, ((Ls.last.app _).app _).seq, _, la _, ns, rfl, ?_, _, rfl, ?_⟩
    · exact (wide_mul (a := 120) (b := 200) (natAbs_lt (by omega) (Int.lt_trans (show (((m + 1 : Nat) : Int)) - 2 < 10 ^ 30 by omega) (by decide))) hS (by decide) (by decide) (by decide)).ok
    · refine limited_ok ?_
      obtain ⟨j, rfl⟩ : ∃ j, m = j + 1 := ⟨m - 1, by omega⟩
      have e : lim (fend T ns x0 + (((j + 1 + 1 : Nat) : Int) - 2) * ns.sum) (fend T ns 0) (fend T ns T) = xsr T ns x0 (j + 1) := by
        rw [far j, show (((j + 1 + 1 : Nat) : Int) - 2) = (j : Int) by omega]
        have := fend_mono (T := T) ns hT
        unfold lim
        split
        · omega
        · split <;> omega
      rw [e]
      rw [List.append_assoc]
      exact after _ _ _
  · have e : m = 0 := by omega
    subst e
    have := after [] none none
    rw [List.append_nil] at this
    exact this
end
end Bx

namespace Bx
open PySem PySem.Spec PyProof.Rows L2 Z
local macro_rules | `(tactic| walk_at "zz") => `(tactic| simp only [zSeq, zAsg, zRet, zRetN, zIfS, zNext, zDrop, zPar, zPar3, zVar, zC, zOp, zUn, zNeg, zI0, zI, zTest, zAnd, zOr, zNot, zAndV, zOrV, zNotV, zIf, zNil, zCons, zTup, zLst, zLstC, zgName, zgTup, zgCons, zgNil, zgSub, startZ, zCall, zCB, zChain, zIsN, zNotN, zNever,
  zAddA, zMulA, zRepeat, zCat, zIx, seqD, lstD, zMax2, zMin2, zAbs, zLen, zSum, zGcd, zInt, zYes, zBreak, zCont, zMin1, zMax1, zList, zListC, zLcC, zLc, ziR1, ziR2, ziList, ziTup, ziZip, ziEnum, wipeZ, zFor, zSl, zPart, zNoPart, zAppend, zLstR1, zLstR2, zCallBC, zCallBF,
  at0, at1, at2, at3, at4, ix2_3, ix0_3, isNon_int, isNon_non, Bool.not_true, Bool.not_false,
  List.map_cons, List.map_nil, List.length_cons, List.length_nil, List.replicate_succ, List.replicate_zero, List.append_nil, List.nil_append, List.cons_append, List.getElem?_cons_zero, List.getElem?_cons_succ, List.set_cons_zero, List.set_cons_succ,
  Option.some.injEq, D.int.injEq, D.bl.injEq, D.tup.injEq, D.lst.injEq, D.str.injEq, D.cell.injEq, O.lst.injEq, reduceCtorEq, exists_eq_left', exists_eq_left, false_and, and_false, true_and, and_true, exists_false, or_false, false_or, exists_and_left, exists_eq', exists_and_right, List.cons.injEq, and_assoc, dec_not, dec_yes, nd_t, nd_f, t_t, t_f, f_t, f_f, true_implies, false_implies, implies_true, and_self, Nat.reduceAdd, Nat.reduceLeDiff, Nat.reduceSub, Nat.reduceLT])
local macro_rules | `(tactic| walk_at "zy") => `(tactic| try simp only [Option.some.injEq, D.int.injEq, D.bl.injEq, D.tup.injEq, D.lst.injEq, D.str.injEq, D.cell.injEq, O.lst.injEq, reduceCtorEq, exists_eq_left', exists_eq_left, false_and, and_false, true_and, and_true, exists_false, or_false, false_or, exists_and_left, exists_eq', exists_and_right, List.cons.injEq, and_assoc, dec_not, dec_yes, nd_t, nd_f, t_t, t_f, f_t, f_f, true_implies, false_implies, implies_true, and_self])
/-! ### drags of any dividers -/
def rndG (l : List Int) (ds : List (Nat × Int)) (s : List Int) : List Int := ds.foldl (fun s d => drg s l d.1 d.2) s
def itrG (l : List Int) (ds : List (Nat × Int)) (s : List Int) : Nat → List Int
  | 0 => s
  | m + 1 => rndG l ds (itrG l ds s m)
/-- dividers of a row of n boxes -/
def DvOk (n : Nat) (ds : List (Nat × Int)) : Prop := ∀ d ∈ ds, d.1 + 1 < n
section
variable {s l : List Int} {ds : List (Nat × Int)}
theorem rndG_rw (R : Rw s l) (hd : DvOk s.length ds) : Rw (rndG l ds s) l ∧ (rndG l ds s).length = s.length ∧ (rndG l ds s).sum = s.sum := by
  induction ds generalizing s with
  | nil => exact ⟨R, rfl, rfl⟩
  | cons d ds ih =>
    have hk := hd d List.mem_cons_self
    have R' := drg_rw R hk (a := d.2)
    have := ih R' fun e he => by rw [drg_len]; exact hd e (List.mem_cons_of_mem _ he)
    exact ⟨this.1, this.2.1.trans drg_len, this.2.2.trans (sum_drg2 R hk)⟩
theorem itrG_rw (R : Rw s l) (hd : DvOk s.length ds) : ∀ m, Rw (itrG l ds s m) l ∧ (itrG l ds s m).length = s.length ∧ (itrG l ds s m).sum = s.sum
  | 0 => ⟨R, rfl, rfl⟩
  | m + 1 => by
    have ih := itrG_rw R hd m
    have := rndG_rw ih.1 (ds := ds) (by rw [ih.2.1]; exact hd)
    exact ⟨this.1, this.2.1.trans ih.2.1, this.2.2.trans ih.2.2⟩
theorem itrG_add (a : Nat) : ∀ b, itrG l ds (itrG l ds s a) b = itrG l ds s (a + b)
  | 0 => rfl
  | b + 1 => by
    show rndG l ds (itrG l ds (itrG l ds s a) b) = rndG l ds (itrG l ds s (a + b))
    rw [itrG_add a b]
theorem rndG_one {k : Nat} (ns : List Int) : rndG l (ns.map fun n => (k, n)) s = rnd l k ns s := by
  unfold rndG rnd
  rw [List.foldl_map]
theorem itrG_one {k : Nat} (ns : List Int) : ∀ m, itrG l (ns.map fun n => (k, n)) s m = itr l k ns s m
  | 0 => rfl
  | m + 1 => by
    show rndG l _ (itrG l _ s m) = rnd l k ns (itr l k ns s m)
    rw [itrG_one ns m, rndG_one]
theorem rndG_snoc {d : Nat × Int} : rndG l (ds ++ [d]) s = drg (rndG l ds s) l d.1 d.2 := by
  unfold rndG
  rw [List.foldl_append]
  rfl
/-! ### all dividers to the right: heights -/
def UU (k : Nat) (n : Int) (h : Nat → Int) (j : Nat) : Int := if j < k then h j else max (h j) (h k + n)
def UUs (ds : List (Nat × Int)) (h : Nat → Int) : Nat → Int := ds.foldl (fun h d => UU d.1 d.2 h) h
def capT (T : Int) (h : Nat → Int) (j : Nat) : Int := min T (h j)
def HH (s l : List Int) (j : Nat) : Int := pre (frs s l) (j + 1)
def Mono (h : Nat → Int) : Prop := ∀ i, h i ≤ h (i + 1)
theorem pre_far {f : List Int} {j : Nat} (h : f.length ≤ j) : pre f j = f.sum := by unfold pre; rw [List.take_of_length_le h]
theorem Mono.le {h : Nat → Int} (m : Mono h) : ∀ {i j : Nat}, i ≤ j → h i ≤ h j := by
  intro i j hij
  induction hij with
  | refl => exact Int.le_refl _
  | step _ ih => exact Int.le_trans ih (m _)
theorem HH_mono (R : Rw s l) : Mono (HH s l) := fun i => by
  unfold HH
  by_cases h : i + 1 + 1 ≤ (frs s l).length
  · exact pre_mono (frs_nn R) (by omega) h
  · rw [pre_far (j := i + 1 + 1) (by omega)]
    by_cases h2 : i + 1 ≤ (frs s l).length
    · rw [← pre_all]; exact pre_mono (frs_nn R) h2 (Nat.le_refl _)
    · rw [pre_far (by omega)]; exact Int.le_refl _
theorem HH_top (R : Rw s l) (j : Nat) : HH s l j ≤ (frs s l).sum := by
  unfold HH
  by_cases h2 : j + 1 ≤ (frs s l).length
  · rw [← pre_all]; exact pre_mono (frs_nn R) h2 (Nat.le_refl _)
  · rw [pre_far (by omega)]; exact Int.le_refl _
theorem drg_up (R : Rw s l) {k : Nat} (hk : k + 1 < s.length) {n : Int} (hn : 0 ≤ n) : HH (drg s l k n) l = capT (frs s l).sum (UU k n (HH s l)) := by
  have H := hgt R hk
  have fl' := frs_len R.len
  have hT := sum_nn R
  have R' := drg_rw R hk (a := n)
  funext j
  show pre (frs (drg s l k n) l) (j + 1) = min (frs s l).sum (if j < k then pre (frs s l) (j + 1) else max (pre (frs s l) (j + 1)) (pre (frs s l) (k + 1) + n))
  by_cases hj : j + 1 ≤ s.length
  · rw [pre_drg R hk _ hj, lim_mm hT]
    have p0 := H.p0
    have pT := H.pT
    have top := HH_top R j
    unfold HH at top
    by_cases c : j + 1 ≤ k
    · have := H.lo (j + 1) (by omega)
      rw [nwP_lo c this, if_pos (by omega)]
      omega
    · by_cases c2 : j = k
      · subst c2
        rw [nwP_k, if_neg (by omega)]
        omega
      · have := H.hi (j + 1) (by omega) (by omega)
        rw [nwP_hi (by omega) this, if_neg (by omega)]
        omega
  · rw [pre_far (by rw [frs_len R'.len, drg_len]; omega), sum_drg R hk, if_neg (by omega), pre_far (f := frs s l) (j := j + 1) (by omega)]
    omega
theorem cap_U {T : Int} {k : Nat} {n : Int} (hn : 0 ≤ n) (h : Nat → Int) : capT T (UU k n (capT T h)) = capT T (UU k n h) := by
  funext j
  show min T (if j < k then min T (h j) else max (min T (h j)) (min T (h k) + n)) = min T (if j < k then h j else max (h j) (h k + n))
  split <;> omega
theorem cap_cap {T : Int} (h : Nat → Int) : capT T (capT T h) = capT T h := by
  funext j
  show min T (min T (h j)) = min T (h j)
  omega
theorem cap_UUs {T : Int} : ∀ (ds : List (Nat × Int)), (∀ d ∈ ds, 0 ≤ d.2) → ∀ h : Nat → Int, capT T (UUs ds (capT T h)) = capT T (UUs ds h)
  | [], _, h => cap_cap h
  | d :: ds, hd, h => by
    have h1 := hd d List.mem_cons_self
    have ih := cap_UUs (T := T) ds fun e he => hd e (List.mem_cons_of_mem _ he)
    show capT T (UUs ds (UU d.1 d.2 (capT T h))) = capT T (UUs ds (UU d.1 d.2 h))
    rw [← ih (UU d.1 d.2 (capT T h)), cap_U h1, ih]
theorem rndG_up (R : Rw s l) (hd : DvOk s.length ds) (hn : ∀ d ∈ ds, 0 ≤ d.2) : HH (rndG l ds s) l = capT (frs s l).sum (UUs ds (HH s l)) := by
  induction ds generalizing s with
  | nil =>
    funext j
    have := HH_top R j
    show HH s l j = min (frs s l).sum (HH s l j)
    omega
  | cons d ds ih =>
    have hk := hd d List.mem_cons_self
    have R' := drg_rw R hk (a := d.2)
    have h2 := ih R' (fun e he => by rw [drg_len]; exact hd e (List.mem_cons_of_mem _ he)) fun e he => hn e (List.mem_cons_of_mem _ he)
    show HH (rndG l ds (drg s l d.1 d.2)) l = capT (frs s l).sum (UUs ds (UU d.1 d.2 (HH s l)))
    rw [h2, sum_drg R hk, drg_up R hk (hn d List.mem_cons_self), cap_UUs ds fun e he => hn e (List.mem_cons_of_mem _ he)]
def pw (f : (Nat → Int) → Nat → Int) : Nat → (Nat → Int) → Nat → Int
  | 0, h => h
  | m + 1, h => f (pw f m h)
theorem itrG_up (R : Rw s l) (hd : DvOk s.length ds) (hn : ∀ d ∈ ds, 0 ≤ d.2) : ∀ m, HH (itrG l ds s m) l = capT (frs s l).sum (pw (UUs ds) m (HH s l))
  | 0 => by
    funext j
    have := HH_top R j
    show HH s l j = min (frs s l).sum (HH s l j)
    omega
  | m + 1 => by
    have ih := itrG_up R hd hn m
    have q := itrG_rw R hd m
    have e : (frs (itrG l ds s m) l).sum = (frs s l).sum := by rw [sum_frs q.1.len, sum_frs R.len, q.2.2]
    show HH (rndG l ds (itrG l ds s m)) l = _
    rw [rndG_up q.1 (by rw [q.2.1]; exact hd) hn, ih, e, cap_UUs ds hn]
    rfl
theorem UU_mono {k : Nat} {n : Int} {h : Nat → Int} (m : Mono h) : Mono (UU k n h) := fun i => by
  have := m i
  unfold UU
  by_cases c : i + 1 < k
  · rw [if_pos c, if_pos (show i < k by omega)]; exact this
  · rw [if_neg c]
    split <;> omega
theorem UUs_mono : ∀ {ds : List (Nat × Int)} {h : Nat → Int}, Mono h → Mono (UUs ds h)
  | [], _, m => m
  | d :: ds, _, m => UUs_mono (ds := ds) (UU_mono m)
end
end Bx

namespace Bx
open PySem PySem.Spec PyProof.Rows L2 Z
local macro_rules | `(tactic| walk_at "zz") => `(tactic| simp only [zSeq, zAsg, zRet, zRetN, zIfS, zNext, zDrop, zPar, zPar3, zVar, zC, zOp, zUn, zNeg, zI0, zI, zTest, zAnd, zOr, zNot, zAndV, zOrV, zNotV, zIf, zNil, zCons, zTup, zLst, zLstC, zgName, zgTup, zgCons, zgNil, zgSub, startZ, zCall, zCB, zChain, zIsN, zNotN, zNever,
  zAddA, zMulA, zRepeat, zCat, zIx, seqD, lstD, zMax2, zMin2, zAbs, zLen, zSum, zGcd, zInt, zYes, zBreak, zCont, zMin1, zMax1, zList, zListC, zLcC, zLc, ziR1, ziR2, ziList, ziTup, ziZip, ziEnum, wipeZ, zFor, zSl, zPart, zNoPart, zAppend, zLstR1, zLstR2, zCallBC, zCallBF,
  at0, at1, at2, at3, at4, ix2_3, ix0_3, isNon_int, isNon_non, Bool.not_true, Bool.not_false,
  List.map_cons, List.map_nil, List.length_cons, List.length_nil, List.replicate_succ, List.replicate_zero, List.append_nil, List.nil_append, List.cons_append, List.getElem?_cons_zero, List.getElem?_cons_succ, List.set_cons_zero, List.set_cons_succ,
  Option.some.injEq, D.int.injEq, D.bl.injEq, D.tup.injEq, D.lst.injEq, D.str.injEq, D.cell.injEq, O.lst.injEq, reduceCtorEq, exists_eq_left', exists_eq_left, false_and, and_false, true_and, and_true, exists_false, or_false, false_or, exists_and_left, exists_eq', exists_and_right, List.cons.injEq, and_assoc, dec_not, dec_yes, nd_t, nd_f, t_t, t_f, f_t, f_f, true_implies, false_implies, implies_true, and_self, Nat.reduceAdd, Nat.reduceLeDiff, Nat.reduceSub, Nat.reduceLT])
local macro_rules | `(tactic| walk_at "zy") => `(tactic| try simp only [Option.some.injEq, D.int.injEq, D.bl.injEq, D.tup.injEq, D.lst.injEq, D.str.injEq, D.cell.injEq, O.lst.injEq, reduceCtorEq, exists_eq_left', exists_eq_left, false_and, and_false, true_and, and_true, exists_false, or_false, false_or, exists_and_left, exists_eq', exists_and_right, List.cons.injEq, and_assoc, dec_not, dec_yes, nd_t, nd_f, t_t, t_f, f_t, f_f, true_implies, false_implies, implies_true, and_self])
/-! ### rows of ways: greatest sums -/
def mxt (g : Nat → Int) : Nat → Int
  | 0 => g 0
  | j + 1 => max (mxt g j) (g (j + 1))
theorem le_mxt {g : Nat → Int} : ∀ {i j : Nat}, i ≤ j → g i ≤ mxt g j
  | i, 0, h => by
    have e : i = 0 := by omega
    subst e
    exact Int.le_refl _
  | i, j + 1, h => by
    show g i ≤ max (mxt g j) (g (j + 1))
    by_cases e : i = j + 1
    · subst e; omega
    · have := le_mxt (g := g) (i := i) (j := j) (by omega)
      omega
theorem mxt_mem {g : Nat → Int} : ∀ j : Nat, ∃ i, i ≤ j ∧ g i = mxt g j
  | 0 => ⟨0, Nat.le_refl _, rfl⟩
  | j + 1 => by
    obtain ⟨i, h1, h2⟩ := mxt_mem (g := g) j
    show ∃ i, i ≤ j + 1 ∧ g i = max (mxt g j) (g (j + 1))
    by_cases c : mxt g j ≤ g (j + 1)
    · exact ⟨j + 1, Nat.le_refl _, by omega⟩
    · exact ⟨i, by omega, by omega⟩
theorem mxt_le {g : Nat → Int} {j : Nat} {M : Int} (h : ∀ i, i ≤ j → g i ≤ M) : mxt g j ≤ M := by
  obtain ⟨i, h1, h2⟩ := mxt_mem (g := g) j
  have := h i h1
  omega
theorem mxt_congr {g g' : Nat → Int} {j : Nat} (h : ∀ i, i ≤ j → g i = g' i) : mxt g j = mxt g' j := by
  have a : mxt g j ≤ mxt g' j := mxt_le fun i hi => by have := le_mxt (g := g') hi; have := h i hi; omega
  have b : mxt g' j ≤ mxt g j := mxt_le fun i hi => by have := le_mxt (g := g) hi; have := h i hi; omega
  omega
/-- the greatest of g i, .. g (i + d) -/
def mxr (g : Nat → Int) (i d : Nat) : Int := mxt (fun e => g (i + e)) d
theorem mxt_list {g : Nat → Int} {j : Nat} {m : Int} (h1 : m ∈ fl (j + 1) g) (h2 : ∀ y, y ∈ fl (j + 1) g → y ≤ m) : m = mxt g j := by
  obtain ⟨i, hi, e⟩ := List.getElem_of_mem h1
  have hi' : i < j + 1 := by rw [fl_len] at hi; exact hi
  have e2 : g i = m := by
    have := fl_get? (g := g) hi'
    rw [List.getElem?_eq_getElem hi, e] at this
    exact (Option.some.inj this).symm
  obtain ⟨k, k1, k2⟩ := mxt_mem (g := g) j
  have a := le_mxt (g := g) (show i ≤ j by omega)
  have hm : g k ∈ fl (j + 1) g := List.mem_of_getElem? (fl_get? (show k < j + 1 by omega))
  have b := h2 _ hm
  omega
def sem (r : Nat → Nat → Int) (h : Nat → Int) (j : Nat) : Int := mxt (fun i => r j i + h i) j
def idR : Nat → Nat → Int := fun _ _ => 0
def updR (k : Nat) (n : Int) (r : Nat → Nat → Int) : Nat → Nat → Int := fun j i => if j < k then r j i else if i ≤ k then max (r j i) (r k i + n) else r j i
def cmpR (a b : Nat → Nat → Int) : Nat → Nat → Int := fun j i => mxr (fun k => b j k + a k i) i (j - i)
theorem sem_id {h : Nat → Int} (m : Mono h) : sem idR h = h := by
  funext j
  have a : sem idR h j ≤ h j := mxt_le fun i hi => by
    have := m.le hi
    show 0 + h i ≤ h j
    omega
  have b := le_mxt (g := fun i => idR j i + h i) (Nat.le_refl j)
  have b : 0 + h j ≤ sem idR h j := b
  omega
theorem sem_upd {k : Nat} {n : Int} {r : Nat → Nat → Int} {h : Nat → Int} : sem (updR k n r) h = UU k n (sem r h) := by
  funext j
  unfold UU
  by_cases c : j < k
  · rw [if_pos c]
    exact mxt_congr fun i hi => by
      show updR k n r j i + h i = r j i + h i
      unfold updR
      rw [if_pos c]
  · rw [if_neg c]
    have a : sem (updR k n r) h j ≤ max (sem r h j) (sem r h k + n) := mxt_le fun i hi => by
      have q1 : r j i + h i ≤ sem r h j := le_mxt (g := fun i => r j i + h i) hi
      show updR k n r j i + h i ≤ _
      unfold updR
      rw [if_neg c]
      by_cases c2 : i ≤ k
      · have q2 : r k i + h i ≤ sem r h k := le_mxt (g := fun i => r k i + h i) c2
        rw [if_pos c2]
        omega
      · rw [if_neg c2]
        omega
    have b1 : sem r h j ≤ sem (updR k n r) h j := mxt_le fun i hi => by
      have q : updR k n r j i + h i ≤ sem (updR k n r) h j := le_mxt (g := fun i => updR k n r j i + h i) hi
      unfold updR at q
      rw [if_neg c] at q
      by_cases c2 : i ≤ k
      · rw [if_pos c2] at q; unfold updR; omega
      · rw [if_neg c2] at q; unfold updR; omega
    have b2 : sem r h k + n ≤ sem (updR k n r) h j := by
      obtain ⟨i, i1, i2⟩ := mxt_mem (g := fun i => r k i + h i) k
      have i2 : r k i + h i = sem r h k := i2
      have q : updR k n r j i + h i ≤ sem (updR k n r) h j := le_mxt (g := fun i => updR k n r j i + h i) (show i ≤ j by omega)
      have e : updR k n r j i = max (r j i) (r k i + n) := by unfold updR; rw [if_neg c, if_pos i1]
      rw [e] at q
      omega
    omega
theorem sem_cmp {a b : Nat → Nat → Int} {h : Nat → Int} : sem (cmpR a b) h = sem b (sem a h) := by
  funext j
  have x : sem (cmpR a b) h j ≤ sem b (sem a h) j := mxt_le fun i hi => by
    show cmpR a b j i + h i ≤ _
    obtain ⟨e, e1, e2⟩ := mxt_mem (g := fun e => b j (i + e) + a (i + e) i) (j - i)
    have e2 : b j (i + e) + a (i + e) i = cmpR a b j i := e2
    have q1 : a (i + e) i + h i ≤ sem a h (i + e) := le_mxt (g := fun i' => a (i + e) i' + h i') (show i ≤ i + e by omega)
    have q2 : b j (i + e) + sem a h (i + e) ≤ sem b (sem a h) j := le_mxt (g := fun k => b j k + sem a h k) (show i + e ≤ j by omega)
    omega
  have y : sem b (sem a h) j ≤ sem (cmpR a b) h j := mxt_le fun k hk => by
    show b j k + sem a h k ≤ _
    obtain ⟨i, i1, i2⟩ := mxt_mem (g := fun i => a k i + h i) k
    have i2 : a k i + h i = sem a h k := i2
    have q1 := le_mxt (g := fun e => b j (i + e) + a (i + e) i) (show k - i ≤ j - i by omega)
    have q1 : b j (i + (k - i)) + a (i + (k - i)) i ≤ cmpR a b j i := q1
    rw [show i + (k - i) = k by omega] at q1
    have q2 : cmpR a b j i + h i ≤ sem (cmpR a b) h j := le_mxt (g := fun i => cmpR a b j i + h i) (show i ≤ j by omega)
    omega
  omega
def updRs (ds : List (Nat × Int)) (r : Nat → Nat → Int) : Nat → Nat → Int := ds.foldl (fun r d => updR d.1 d.2 r) r
theorem sem_upds : ∀ (ds : List (Nat × Int)) (r : Nat → Nat → Int) (h : Nat → Int), sem (updRs ds r) h = UUs ds (sem r h)
  | [], r, h => rfl
  | d :: ds, r, h => by
    show sem (updRs ds (updR d.1 d.2 r)) h = UUs ds (UU d.1 d.2 (sem r h))
    rw [sem_upds ds, sem_upd]
theorem pw_add (f : (Nat → Int) → Nat → Int) (a : Nat) : ∀ (b : Nat) (h : Nat → Int), pw f a (pw f b h) = pw f (a + b) h := by
  induction a with
  | zero => intro b h; rw [Nat.zero_add]; rfl
  | succ a ih =>
    intro b h
    rw [Nat.succ_add]
    show f (pw f a (pw f b h)) = f (pw f (a + b) h)
    rw [ih]
theorem pw_sem {ds : List (Nat × Int)} {h : Nat → Int} (m : Mono h) : ∀ n, pw (sem (updRs ds idR)) n h = pw (UUs ds) n h ∧ Mono (pw (UUs ds) n h)
  | 0 => ⟨rfl, m⟩
  | n + 1 => by
    obtain ⟨h1, h2⟩ := pw_sem (ds := ds) m n
    refine ⟨?_, UUs_mono h2⟩
    show sem (updRs ds idR) (pw (sem (updRs ds idR)) n h) = UUs ds (pw (UUs ds) n h)
    rw [h1, sem_upds, sem_id h2]
end Bx

namespace Bx
open PySem PySem.Spec PyProof.Rows L2 Z
local macro_rules | `(tactic| walk_at "zz") => `(tactic| simp only [zSeq, zAsg, zRet, zRetN, zIfS, zNext, zDrop, zPar, zPar3, zVar, zC, zOp, zUn, zNeg, zI0, zI, zTest, zAnd, zOr, zNot, zAndV, zOrV, zNotV, zIf, zNil, zCons, zTup, zLst, zLstC, zgName, zgTup, zgCons, zgNil, zgSub, startZ, zCall, zCB, zChain, zIsN, zNotN, zNever,
  zAddA, zMulA, zRepeat, zCat, zIx, seqD, lstD, zMax2, zMin2, zAbs, zLen, zSum, zGcd, zInt, zYes, zBreak, zCont, zMin1, zMax1, zList, zListC, zLcC, zLc, ziR1, ziR2, ziList, ziTup, ziZip, ziEnum, wipeZ, zFor, zSl, zPart, zNoPart, zAppend, zLstR1, zLstR2, zCallBC, zCallBF,
  at0, at1, at2, at3, at4, ix2_3, ix0_3, isNon_int, isNon_non, Bool.not_true, Bool.not_false,
  List.map_cons, List.map_nil, List.length_cons, List.length_nil, List.replicate_succ, List.replicate_zero, List.append_nil, List.nil_append, List.cons_append, List.getElem?_cons_zero, List.getElem?_cons_succ, List.set_cons_zero, List.set_cons_succ,
  Option.some.injEq, D.int.injEq, D.bl.injEq, D.tup.injEq, D.lst.injEq, D.str.injEq, D.cell.injEq, O.lst.injEq, reduceCtorEq, exists_eq_left', exists_eq_left, false_and, and_false, true_and, and_true, exists_false, or_false, false_or, exists_and_left, exists_eq', exists_and_right, List.cons.injEq, and_assoc, dec_not, dec_yes, nd_t, nd_f, t_t, t_f, f_t, f_f, true_implies, false_implies, implies_true, and_self, Nat.reduceAdd, Nat.reduceLeDiff, Nat.reduceSub, Nat.reduceLT])
local macro_rules | `(tactic| walk_at "zy") => `(tactic| try simp only [Option.some.injEq, D.int.injEq, D.bl.injEq, D.tup.injEq, D.lst.injEq, D.str.injEq, D.cell.injEq, O.lst.injEq, reduceCtorEq, exists_eq_left', exists_eq_left, false_and, and_false, true_and, and_true, exists_false, or_false, false_or, exists_and_left, exists_eq', exists_and_right, List.cons.injEq, and_assoc, dec_not, dec_yes, nd_t, nd_f, t_t, t_f, f_t, f_f, true_implies, false_implies, implies_true, and_self])
/-! ### rows of ways, in the program -/
def dgD (ds : List (Nat × Int)) : List D := ds.map fun d => D.tup [.int (d.1 : Int), .int d.2]
def rwD (N : Nat) (r : Nat → Nat → Int) : List D := (List.range N).map fun j => D.lst (isD (fl (j + 1) (r j)))
section
variable {K : PySem.W.Frag} {C : CI} {Δ Δ' : Store} {P : D → Store → Prop} {N : Nat} {r r' a b : Nat → Nat → Int} {ds : List (Nat × Int)}
theorem dgD_len : (dgD ds).length = ds.length := List.length_map _
theorem dgD_get {i : Nat} (h : i < ds.length) : (dgD ds)[i]? = some (.tup [.int ((ds[i].1 : Nat) : Int), .int ds[i].2]) := by unfold dgD; rw [List.getElem?_map, List.getElem?_eq_getElem h] <;> rfl
theorem rwD_len : (rwD N r).length = N := by unfold rwD; rw [List.length_map, List.length_range]
theorem rwD_get {j : Nat} (h : j < N) : (rwD N r)[j]? = some (.lst (isD (fl (j + 1) (r j)))) := by unfold rwD; rw [List.getElem?_map, List.getElem?_range h] <;> rfl
theorem rwD_at {j : Nat} (h : j < N) : atI (rwD N r) (j : Int) = some (.lst (isD (fl (j + 1) (r j)))) := atI_nat (rwD_get h)
theorem rwD_congr (h : ∀ j, j < N → ∀ i, i < j + 1 → r j i = r' j i) : rwD N r = rwD N r' := by
  unfold rwD
  exact List.map_congr_left fun j hj => by rw [fl_congr (h j (List.mem_range.mp hj))]
theorem rwD_set {j : Nat} {g : Nat → Int} (hj : j < N) : (rwD N r).set j (.lst (isD (fl (j + 1) g))) = rwD N fun i => if i = j then g else r i := by
  apply List.ext_getElem?
  intro i
  by_cases h : i < N
  · rw [rwD_get h]
    by_cases e : i = j
    · subst e
      rw [List.getElem?_set_self (by rw [rwD_len]; exact h), if_pos rfl]
    · rw [List.getElem?_set_ne (Ne.symm e), rwD_get h, if_neg e]
  · rw [List.getElem?_eq_none (by rw [List.length_set, rwD_len]; omega), List.getElem?_eq_none (by rw [rwD_len]; omega)]
theorem rwD_enum : Z.enumD (rwD N r) = (List.range N).map fun j => D.tup [.int (j : Nat), .lst (isD (fl (j + 1) (r j)))] := by
  apply List.ext_getElem?
  intro i
  unfold Z.enumD
  by_cases h : i < N
  · rw [List.getElem?_map, List.getElem?_zipIdx, rwD_get h, List.getElem?_map, List.getElem?_range h]
    show some _ = some _
    simp
  · rw [List.getElem?_eq_none (by rw [List.length_map, List.length_zipIdx, rwD_len]; omega), List.getElem?_eq_none (by rw [List.length_map, List.length_range]; omega)]
theorem rep0 : ∀ n : Nat, (List.replicate n [D.int 0]).flatten = isD (fl n fun _ => 0)
  | 0 => rfl
  | n + 1 => by
    rw [List.replicate_succ', List.flatten_append, rep0 n]
    unfold fl isD
    rw [List.range_succ, List.map_append, List.map_append]
    rfl
theorem fl_zip {n m : Nat} {g g' : Nat → Int} (h : n ≤ m) : (fl m g).zip (fl n g') = (List.range n).map fun i => (g i, g' i) := by
  apply List.ext_getElem?
  intro i
  by_cases c : i < n
  · rw [List.getElem?_zip_eq_some.mpr (show (fl m g)[i]? = some (g i, g' i).1 ∧ (fl n g')[i]? = some (g i, g' i).2 from ⟨fl_get? (by omega), fl_get? c⟩), List.getElem?_map, List.getElem?_range c]
    rfl
  · rw [List.getElem?_eq_none (by rw [List.length_zip, fl_len, fl_len]; omega), List.getElem?_eq_none (by rw [List.length_map, List.length_range]; omega)]
theorem fl_zip2 {n m : Nat} {g g' : Nat → Int} (h : n ≤ m) : (fl n g).zip (fl m g') = (List.range n).map fun i => (g i, g' i) := by
  apply List.ext_getElem?
  intro i
  by_cases c : i < n
  · rw [List.getElem?_zip_eq_some.mpr (show (fl n g)[i]? = some (g i, g' i).1 ∧ (fl m g')[i]? = some (g i, g' i).2 from ⟨fl_get? c, fl_get? (by omega)⟩), List.getElem?_map, List.getElem?_range c]
    rfl
  · rw [List.getElem?_eq_none (by rw [List.length_zip, fl_len, fl_len]; omega), List.getElem?_eq_none (by rw [List.length_map, List.length_range]; omega)]
theorem upd_row {k j : Nat} {n : Int} (h : k ≤ j) : (List.range (k + 1)).map (fun i => D.int (if r k i + n > r j i then r k i + n else r j i)) ++ isD ((fl (j + 1) (r j)).drop (k + 1)) = isD (fl (j + 1) (updR k n r j)) := by
  unfold isD
  apply List.ext_getElem?
  intro i
  by_cases c : i < j + 1
  · rw [List.getElem?_map, fl_get? c]
    show _ = some (D.int _)
    by_cases c2 : i < k + 1
    · rw [List.getElem?_append_left (by rw [List.length_map, List.length_range]; exact c2), List.getElem?_map, List.getElem?_range c2]
      have e : (if r k i + n > r j i then r k i + n else r j i) = max (r j i) (r k i + n) := by split <;> omega
      have e2 : updR k n r j i = max (r j i) (r k i + n) := by
        unfold updR
        rw [if_neg (by omega), if_pos (by omega)]
      rw [e2, ← e]
      rfl
    · rw [List.getElem?_append_right (by rw [List.length_map, List.length_range]; omega), List.length_map, List.length_range, List.getElem?_map, List.getElem?_drop, show k + 1 + (i - (k + 1)) = i by omega, fl_get? c]
      unfold updR
      rw [if_neg (by omega), if_neg (by omega)]
      rfl
  · rw [List.getElem?_eq_none (by rw [List.length_append, List.length_map, List.length_range, List.length_map, List.length_drop, fl_len]; omega), List.getElem?_eq_none (by rw [List.length_map, fl_len]; omega)]
theorem updRs_snoc {d : Nat × Int} : updRs (ds ++ [d]) r = updR d.1 d.2 (updRs ds r) := by
  unfold updRs
  rw [List.foldl_append]
  rfl
theorem rows_ok (hN : N ≤ 100) (hd : ∀ d ∈ ds, d.1 < N) (p : P (.cell Δ.length) (Δ ++ [.lst (rwD N (updRs ds idR))])) : W_rows_of K C [.lst (dgD ds), .int (N : Int)] Δ P := by
  unfold W_rows_of z_rows_of
  refine ⟨rfl, ?_⟩
  refine seq_cut fun rest hr => ?_
  simp only [zLcC]
  walk_at "zz"
  refine ⟨by omega, by omega, ?_⟩
  have er : rangeD 0 (N : Int) = (List.range N).map fun (i : Nat) => D.int (0 + (i : Int)) := by
    unfold rangeD
    rw [show ((N : Int) - 0).toNat = N by omega]
  rw [er]
  refine comp_map (f := fun i : Nat => D.lst (isD (fl (i + 1) fun _ => 0))) _ [] (by simp; omega) (fun i hi Q q => ?_) ?_
  · have := List.mem_range.mp hi
    walk_at "zz"
    refine ⟨by omega, by omega, by omega, ?_⟩
    rw [show (0 + (i : Int) + 1).toNat = i + 1 by omega, rep0]
    exact q
  rw [List.nil_append]
  show asCell _ _ _
  refine ⟨_, rfl, ?_⟩
  subst hr
  refine seq_cut fun rest hr => ?_
  refine for_cut fun body hB => ?_
  walk_at "zz"
  refine loop_inv (fun i Γ E => ∃ (u3 u4 u5 u6 : Option D), E = Δ ++ [.lst (rwD N (updRs (ds.take i) idR))] ∧ Γ = [some (.lst (dgD ds)), some (.int (N : Int)), some (.cell Δ.length), u3, u4, u5, u6, none, none, none]) _ 0 _ _ ⟨none, none, none, none, rfl, rfl⟩ ?_ ?_
  · rintro i x Γ E Ze hx ⟨u3, u4, u5, u6, rfl, rfl⟩ hnx _ _ _
    rw [Nat.zero_add] at *
    have il : i < ds.length := by
      have := (List.getElem?_eq_some_iff.mp hx).1
      rw [dgD_len] at this
      exact this
    rw [dgD_get il] at hx
    cases hx
    have hk := hd _ (List.getElem_mem il)
    have e : ds.take (i + 1) = ds.take i ++ [ds[i]] := by rw [List.take_add_one, List.getElem?_eq_getElem il]; rfl
    rw [e, updRs_snoc] at hnx
    generalize hkk : ds[i].1 = k at *
    generalize hnn : ds[i].2 = n at *
    generalize updRs (ds.take i) idR = r at *
    subst hB
    refine ⟨_, rfl, rfl, _, _, rfl, _, _, rfl, rfl, ?_⟩
    simp only [List.set_cons_succ, List.set_cons_zero]
    refine seq_cut fun rest2 hr2 => ?_
    walk_at "zz"
    simp only [last_at]
    walk_at "zz"
    rw [rwD_at hk]
    walk_at "zz"
    unfold isD fl
    rw [List.map_map]
    refine comp_map (f := fun i : Nat => D.int (r k i + n)) (List.range (k + 1)) [] (by simp; omega) (fun i hi Q q => ?_) ?_
    · walk_at "zz"
      exact ⟨_, rfl, q⟩
    rw [List.nil_append]
    subst hr2
    refine for_cut fun body hB => ?_
    walk_at "zz"
    refine ⟨by omega, by omega, by omega, by omega, ?_⟩
    have el : (List.range (k + 1)).map (fun i : Nat => D.int (r k i + n)) = isD (fl (k + 1) fun i => r k i + n) := by unfold isD fl; rw [List.map_map]; rfl
    rw [el]
    refine loop_inv (fun t Γ E => ∃ (u6 : Option D), E = Δ ++ [.lst (rwD N fun j => if k ≤ j ∧ j < k + t then updR k n r j else r j)] ∧ Γ = [some (.lst (dgD ds)), some (.int (N : Int)), some (.cell Δ.length), some (.int (k : Int)), some (.int n), some (.lst (isD (fl (k + 1) fun i => r k i + n))), u6, none, none, none]) _ 0 _ _ ⟨u6, ?_, rfl⟩ ?_ ?_
    · congr 3
      exact rwD_congr fun j _ i _ => by rw [if_neg (by omega)]
    · rintro t x Γ E Ze hx ⟨u6, rfl, rfl⟩ hnx _ _ _
      rw [Nat.zero_add] at *
      have tl : t < N - k := by
        have := (List.getElem?_eq_some_iff.mp hx).1
        rw [rangeD_len] at this
        omega
      rw [range_get (by omega)] at hx
      cases hx
      subst hB
      rw [show ((k : Int) + (t : Int)) = ((k + t : Nat) : Int) by omega]
      simp only [zgName, List.set_cons_succ, List.set_cons_zero]
      walk_at "zz"
      simp only [last_at]
      walk_at "zz"
      rw [rwD_at (show k + t < N by omega)]
      walk_at "zz"
      rw [if_neg (show ¬ (k ≤ k + t ∧ k + t < k + t) by omega)]
      rw [zip_isD, fl_zip (show k + 1 ≤ k + t + 1 by omega), List.map_map]
      refine comp_map (f := fun i : Nat => D.int (if r k i + n > r (k + t) i then r k i + n else r (k + t) i)) (List.range (k + 1)) [] (by simp; omega) (fun i hi Q q => ?_) ?_
      · walk_at "zz"
        exact ⟨_, rfl, rfl, _, _, rfl, _, _, rfl, rfl, _, rfl, _, rfl, q⟩
      rw [List.nil_append]
      simp only [last_at]
      walk_at "zz"
      rw [rwD_at (show k + t < N by omega)]
      walk_at "zz"
      rw [if_neg (show ¬ (k ≤ k + t ∧ k + t < k + t) by omega)]
      rw [show ((k : Int) + 1) = ((k + 1 : Nat) : Int) by omega, cut_from, upd_row (show k ≤ k + t by omega)]
      refine ⟨by rw [List.length_map, List.length_range, isD_len, List.length_drop, fl_len]; omega, k + t, ixN_nat (by rw [rwD_len]; omega), ?_⟩
      rw [set_last, rwD_set (show k + t < N by omega)]
      refine hnx _ _ ⟨_, ?_, rfl⟩
      congr 3
      exact rwD_congr fun j hj i _ => by
        by_cases c : j = k + t
        · subst c
          rw [if_pos rfl, if_pos (by omega)]
        · rw [if_neg c]
          by_cases c2 : k ≤ j ∧ j < k + t
          · rw [if_pos c2, if_pos (by omega)]
          · rw [if_neg c2, if_neg (by omega)]
    · rintro Γ E ⟨u6, rfl, rfl⟩
      rw [Nat.zero_add, rangeD_len] at *
      refine hnx _ _ ⟨_, _, _, _, ?_, rfl⟩
      congr 3
      exact rwD_congr fun j hj i _ => by
        by_cases c : k ≤ j
        · rw [if_pos (by omega)]
        · rw [if_neg (by omega)]
          unfold updR
          rw [if_pos (by omega)]
  · rintro Γ E ⟨u3, u4, u5, u6, rfl, rfl⟩
    rw [Nat.zero_add, dgD_len, List.take_length] at *
    show rest _ _
    subst hr
    walk_at "zz"
    exact p
end
end Bx

namespace Bx
open PySem PySem.Spec PyProof.Rows L2 Z
local macro_rules | `(tactic| walk_at "zz") => `(tactic| simp only [zSeq, zAsg, zRet, zRetN, zIfS, zNext, zDrop, zPar, zPar3, zVar, zC, zOp, zUn, zNeg, zI0, zI, zTest, zAnd, zOr, zNot, zAndV, zOrV, zNotV, zIf, zNil, zCons, zTup, zLst, zLstC, zgName, zgTup, zgCons, zgNil, zgSub, startZ, zCall, zCB, zChain, zIsN, zNotN, zNever,
  zAddA, zMulA, zRepeat, zCat, zIx, seqD, lstD, zMax2, zMin2, zAbs, zLen, zSum, zGcd, zInt, zYes, zBreak, zCont, zMin1, zMax1, zList, zListC, zLcC, zLc, ziR1, ziR2, ziList, ziTup, ziZip, ziEnum, wipeZ, zFor, zSl, zPart, zNoPart, zAppend, zLstR1, zLstR2, zCallBC, zCallBF,
  at0, at1, at2, at3, at4, ix2_3, ix0_3, isNon_int, isNon_non, Bool.not_true, Bool.not_false,
  List.map_cons, List.map_nil, List.length_cons, List.length_nil, List.replicate_succ, List.replicate_zero, List.append_nil, List.nil_append, List.cons_append, List.getElem?_cons_zero, List.getElem?_cons_succ, List.set_cons_zero, List.set_cons_succ,
  Option.some.injEq, D.int.injEq, D.bl.injEq, D.tup.injEq, D.lst.injEq, D.str.injEq, D.cell.injEq, O.lst.injEq, reduceCtorEq, exists_eq_left', exists_eq_left, false_and, and_false, true_and, and_true, exists_false, or_false, false_or, exists_and_left, exists_eq', exists_and_right, List.cons.injEq, and_assoc, dec_not, dec_yes, nd_t, nd_f, t_t, t_f, f_t, f_f, true_implies, false_implies, implies_true, and_self, Nat.reduceAdd, Nat.reduceLeDiff, Nat.reduceSub, Nat.reduceLT])
local macro_rules | `(tactic| walk_at "zy") => `(tactic| try simp only [Option.some.injEq, D.int.injEq, D.bl.injEq, D.tup.injEq, D.lst.injEq, D.str.injEq, D.cell.injEq, O.lst.injEq, reduceCtorEq, exists_eq_left', exists_eq_left, false_and, and_false, true_and, and_true, exists_false, or_false, false_or, exists_and_left, exists_eq', exists_and_right, List.cons.injEq, and_assoc, dec_not, dec_yes, nd_t, nd_f, t_t, t_f, f_t, f_f, true_implies, false_implies, implies_true, and_self])
section
variable {K : PySem.W.Frag} {C : CI} {Δ Δ' : Store} {P : D → Store → Prop} {N : Nat} {r r' a b : Nat → Nat → Int} {ds : List (Nat × Int)}
theorem rwD_below {m : Nat} : ∀ {xs : List Nat}, Z.belowL m (xs.map fun j => D.lst (isD (fl (j + 1) (r j)))) = true
  | [] => rfl
  | x :: xs => by
    have ih := rwD_below (m := m) (xs := xs)
    have h0 : ∀ s : List Int, Z.belowL m (isD s) = true := fun s => by
      induction s with
      | nil => rfl
      | cons y s ih => show (true && Z.belowL m (isD s)) = true; rw [ih]; rfl
    show (Z.belowL m (isD (fl (x + 1) (r x))) && Z.belowL m (xs.map fun j => D.lst (isD (fl (j + 1) (r j))))) = true
    rw [h0, ih]
    rfl
theorem frows_ok (hN : N ≤ 100) (hd : ∀ d ∈ ds, d.1 < N) (p : P (.lst (rwD N (updRs ds idR))) Δ) : frzM (W_rows_of K C) [.lst (dgD ds), .int (N : Int)] Δ P := by
  unfold frzM
  exact rows_ok hN hd ⟨_, _, rfl, rfl, rfl, fun _ _ h => .inl h, rwD_below, p⟩
theorem obo_ok (hN : N ≤ 100) (p : P (.lst (rwD N (cmpR a b))) Δ) : W_one_behind_other K C [.lst (rwD N a), .lst (rwD N b)] Δ P := by
  unfold W_one_behind_other z_one_behind_other
  walk_at "zz"
  rw [rwD_enum]
  refine comp_map (f := fun j : Nat => D.lst (isD (fl (j + 1) (cmpR a b j)))) _ [] (by simp; omega) (fun j hj Q q => ?_) ?_
  · have hj' := List.mem_range.mp hj
    walk_at "zz"
    refine ⟨by omega, by omega, ?_⟩
    have er : rangeD 0 ((j : Int) + 1) = (List.range (j + 1)).map fun (i : Nat) => D.int (i : Int) := by
      unfold rangeD
      rw [show ((j : Int) + 1 - 0).toNat = j + 1 by omega]
      exact List.map_congr_left fun i _ => by rw [Int.zero_add]
    rw [er]
    refine comp_map (f := fun i : Nat => D.int (cmpR a b j i)) _ [] (by simp; omega) (fun i hi Q q => ?_) ?_
    · have hi' := List.mem_range.mp hi
      walk_at "zz"
      refine ⟨by omega, by omega, by omega, by omega, ?_⟩
      have er2 : rangeD (i : Int) ((j : Int) + 1) = (List.range (j - i + 1)).map fun (e : Nat) => D.int ((i + e : Nat) : Int) := by
        unfold rangeD
        rw [show ((j : Int) + 1 - (i : Int)).toNat = j - i + 1 by omega]
        exact List.map_congr_left fun e _ => by rw [Int.natCast_add]
      rw [er2]
      refine comp_map (f := fun e : Nat => D.int (b j (i + e) + a (i + e) i)) _ [] (by simp; omega) (fun e he Q q => ?_) ?_
      · have he' := List.mem_range.mp he
        walk_at "zz"
        rw [atI_ints (by rw [fl_len]; omega), fl_get (by omega), rwD_at (show i + e < N by omega)]
        walk_at "zz"
        rw [atI_ints (by rw [fl_len]; omega), fl_get (by omega)]
        walk_at "zz"
        exact q
      · rw [List.nil_append]
        refine ⟨fl (j - i + 1) fun e => b j (i + e) + a (i + e) i, ?_, fun h => ?_, fun m h1 h2 => ?_⟩
        · unfold fl
          rw [List.map_map]
          rfl
        · have := congrArg List.length h
          rw [fl_len] at this
          simp at this
        · rw [mxt_list h1 h2]
          exact q
    · rw [List.nil_append]
      unfold isD fl at q
      rw [List.map_map] at q
      exact q
  · rw [List.nil_append]
    exact p
theorem many_ok {m : Nat} (hN : N ≤ 100) (p : ∀ r, (∀ h, sem r h = pw (sem b) m (sem idR h)) → P (.lst (rwD N r)) Δ) : W_many_times K C [.lst (rwD N b), .int (m : Int)] Δ P := by
  unfold W_many_times z_many_times
  refine ⟨rfl, ?_⟩
  refine seq_cut fun rest hr => ?_
  walk_at "zz"
  rw [rwD_len]
  refine frows_ok (ds := []) hN (fun _ q => nomatch q) ?_
  subst hr
  refine seq_cut fun rest hr => ?_
  refine ⟨fun t' Γ E => ∃ (t : Nat) (x y : Nat → Nat → Int) (c d : Nat), t' = t ∧ E = Δ ∧ Γ = [some (.lst (rwD N x)), some (.int (t : Int)), some (.lst (rwD N y))] ∧ m = d + c * t ∧ (∀ h, sem x h = pw (sem b) c h) ∧ (∀ h, sem y h = pw (sem b) d (sem idR h)), ⟨_, m, b, idR, 1, 0, rfl, rfl, rfl, by omega, fun _ => rfl, fun _ => rfl⟩, ?_⟩
  rintro t _ E ⟨t1, x, y, c, d, ht, hE, rfl, hm, hx, hy⟩
  subst ht
  subst hE
  walk_at "zz"
  refine ⟨fun ht => ?_, fun ht => ?_⟩
  · have c2 : ∀ h, sem (cmpR x x) h = pw (sem b) (c + c) h := fun h => by rw [sem_cmp, hx, hx, pw_add]
    have c3 : ∀ h, sem (cmpR y x) h = pw (sem b) (c + d) (sem idR h) := fun h => by rw [sem_cmp, hx, hy, pw_add]
    refine ⟨by decide, eq_ints ?_⟩
    rcases Nat.mod_two_eq_zero_or_one t with e | e
    · have e2 : ((t : Int) % 2 == 1) = false := by rw [beq_eq_false_iff_ne]; omega
      rw [e2]
      obtain ⟨u, rfl⟩ : ∃ u, t = u + u := ⟨t / 2, by omega⟩
      refine ⟨false, rfl, (fun q => nomatch q), fun _ => obo_ok hN ⟨divk (by decide) (by decide), u, by omega, rfl, _, rfl, by omega, y, rfl, c + c, d, ?_, c2, hy⟩⟩
      rw [hm, Nat.mul_add, Nat.add_mul]
    · have e2 : ((t : Int) % 2 == 1) = true := by rw [beq_iff_eq]; omega
      rw [e2]
      obtain ⟨u, rfl⟩ : ∃ u, t = u + u + 1 := ⟨t / 2, by omega⟩
      refine ⟨true, rfl, fun _ => obo_ok hN (obo_ok hN ⟨divk (by decide) (by decide), u, by omega, rfl, _, rfl, by omega, _, rfl, c + c, c + d, ?_, c2, c3⟩), (fun q => nomatch q)⟩
      rw [hm, Nat.mul_add, Nat.mul_add, Nat.add_mul]
      omega
  · have e : t = 0 := by omega
    subst e
    show rest _ _
    subst hr
    walk_at "zz"
    refine p y fun h => ?_
    rw [hy, hm, Nat.mul_zero, Nat.add_zero]
theorem min_if {x y : Int} : (if y < x then y else x) = min x y := by split <;> omega
theorem lifted_ok {m : Nat} {T : Int} {h : Nat → Int} (hN : N ≤ 100) (hd : ∀ d ∈ ds, d.1 < N) (mo : Mono h) (p : P (.lst (isD (fl N (capT T (pw (UUs ds) m h))))) Δ) : W_lifted_by K C [.lst (isD (fl N h)), .int T, .lst (dgD ds), .int (m : Int)] Δ P := by
  unfold W_lifted_by z_lifted_by
  refine ⟨rfl, ?_⟩
  refine seq_cut fun rest hr => ?_
  walk_at "zz"
  rw [isD_len, fl_len]
  refine frows_ok hN hd ?_
  refine many_ok hN fun r hs => ?_
  have e : sem r h = pw (UUs ds) m h := by rw [hs, sem_id mo, (pw_sem mo m).1]
  rw [← e] at p
  subst hr
  walk_at "zz"
  unfold rwD
  refine comp_map (f := fun j : Nat => D.int (capT T (sem r h) j)) _ [] (by simp; omega) (fun j hj Q q => ?_) ?_
  · have hj' := List.mem_range.mp hj
    walk_at "zz"
    rw [zip_isD, fl_zip2 (show j + 1 ≤ N by omega), List.map_map]
    refine comp_map (f := fun i : Nat => D.int (r j i + h i)) _ [] (by simp; omega) (fun i hi Q q => ?_) ?_
    · walk_at "zz"
      exact ⟨_, rfl, rfl, _, _, rfl, _, _, rfl, rfl, _, rfl, _, rfl, q⟩
    · rw [List.nil_append]
      refine ⟨fl (j + 1) fun i => r j i + h i, ?_, fun h => ?_, fun m h1 h2 => ?_⟩
      · unfold fl
        rw [List.map_map]
        rfl
      · have := congrArg List.length h
        rw [fl_len] at this
        simp at this
      · rw [mxt_list h1 h2]
        rw [min_if]
        exact q
  · rw [List.nil_append]
    unfold isD fl at p
    rw [List.map_map] at p
    exact p
theorem seen_ok {s : List Int} {T : Int} (h4 : s.length ≤ 1000) (p : P (.lst (isD (s.reverse.map fun i => T - i))) Δ) : W_seen_from_behind K C [.lst (isD s), .int T] Δ P := by
  unfold W_seen_from_behind z_seen_from_behind
  unfold ziRev
  walk_at "zz"
  have e : (isD s).reverse = s.reverse.map D.int := by unfold isD; rw [List.map_reverse]
  rw [e]
  refine comp_map (f := fun i : Int => D.int (T - i)) _ [] (by simp; omega) (fun i hi Q q => ?_) ?_
  · walk_at "zz"
    exact q
  · rw [List.nil_append]
    unfold isD at p
    rw [List.map_map] at p
    exact p
end
end Bx

namespace Bx
open PySem PySem.Spec PyProof.Rows L2 Z
local macro_rules | `(tactic| walk_at "zz") => `(tactic| simp only [zSeq, zAsg, zRet, zRetN, zIfS, zNext, zDrop, zPar, zPar3, zVar, zC, zOp, zUn, zNeg, zI0, zI, zTest, zAnd, zOr, zNot, zAndV, zOrV, zNotV, zIf, zNil, zCons, zTup, zLst, zLstC, zgName, zgTup, zgCons, zgNil, zgSub, startZ, zCall, zCB, zChain, zIsN, zNotN, zNever,
  zAddA, zMulA, zRepeat, zCat, zIx, seqD, lstD, zMax2, zMin2, zAbs, zLen, zSum, zGcd, zInt, zYes, zBreak, zCont, zMin1, zMax1, zList, zListC, zLcC, zLc, ziR1, ziR2, ziList, ziTup, ziZip, ziEnum, wipeZ, zFor, zSl, zPart, zNoPart, zAppend, zLstR1, zLstR2, zCallBC, zCallBF,
  at0, at1, at2, at3, at4, ix2_3, ix0_3, isNon_int, isNon_non, Bool.not_true, Bool.not_false,
  List.map_cons, List.map_nil, List.length_cons, List.length_nil, List.replicate_succ, List.replicate_zero, List.append_nil, List.nil_append, List.cons_append, List.getElem?_cons_zero, List.getElem?_cons_succ, List.set_cons_zero, List.set_cons_succ,
  Option.some.injEq, D.int.injEq, D.bl.injEq, D.tup.injEq, D.lst.injEq, D.str.injEq, D.cell.injEq, O.lst.injEq, reduceCtorEq, exists_eq_left', exists_eq_left, false_and, and_false, true_and, and_true, exists_false, or_false, false_or, exists_and_left, exists_eq', exists_and_right, List.cons.injEq, and_assoc, dec_not, dec_yes, nd_t, nd_f, t_t, t_f, f_t, f_f, true_implies, false_implies, implies_true, and_self, Nat.reduceAdd, Nat.reduceLeDiff, Nat.reduceSub, Nat.reduceLT])
local macro_rules | `(tactic| walk_at "zy") => `(tactic| try simp only [Option.some.injEq, D.int.injEq, D.bl.injEq, D.tup.injEq, D.lst.injEq, D.str.injEq, D.cell.injEq, O.lst.injEq, reduceCtorEq, exists_eq_left', exists_eq_left, false_and, and_false, true_and, and_true, exists_false, or_false, false_or, exists_and_left, exists_eq', exists_and_right, List.cons.injEq, and_assoc, dec_not, dec_yes, nd_t, nd_f, t_t, t_f, f_t, f_f, true_implies, false_implies, implies_true, and_self])
/-! ### seen from behind -/
section
variable {s l f : List Int} {ds : List (Nat × Int)}
theorem fl_rev {n : Nat} {g : Nat → Int} : (fl n g).reverse = fl n fun i => g (n - 1 - i) := by
  apply List.ext_getElem?
  intro i
  by_cases h : i < n
  · rw [List.getElem?_reverse (by rw [fl_len]; exact h), fl_len, fl_get? (by omega), fl_get? h]
  · rw [List.getElem?_eq_none (by rw [List.length_reverse, fl_len]; omega), List.getElem?_eq_none (by rw [fl_len]; omega)]
theorem getD_rev {i : Nat} (h : i < s.length) : s.reverse.getD i 0 = s.getD (s.length - 1 - i) 0 := by
  rw [List.getD_eq_getElem?_getD, List.getD_eq_getElem?_getD, List.getElem?_reverse h]
theorem frs_rev (e : s.length = l.length) : frs s.reverse l.reverse = (frs s l).reverse := by
  have e2 := frs_len (s := s.reverse) (l := l.reverse) (by simp [e])
  have e3 := frs_len e
  rw [fl_of (s := frs s.reverse l.reverse), fl_of (s := frs s l), fl_rev, e2, e3, List.length_reverse]
  refine fl_congr fun i hi => ?_
  rw [frs_get (by simp [e]) (by simpa using hi), getD_rev hi, getD_rev (by omega), frs_get e (by omega), e]
theorem pre_rev {j : Nat} (h : j ≤ f.length) : pre f.reverse j = f.sum - pre f (f.length - j) := by
  unfold pre
  rw [List.take_reverse, List.sum_reverse]
  have := congrArg List.sum (List.take_append_drop (f.length - j) f)
  rw [List.sum_append] at this
  omega
theorem rw_rev (R : Rw s l) : Rw s.reverse l.reverse := by
  refine ⟨by simp [R.len], by simpa using R.two, by simpa using R.forty, fun i hi => R.l0 i (List.mem_reverse.mp hi), fun i hi => R.s0 i (List.mem_reverse.mp hi), fun i hi => ?_⟩
  have hi : i < s.length := by simpa using hi
  rw [getD_rev hi, getD_rev (by rw [← R.len]; exact hi), ← R.len]
  exact R.le _ (by omega)
theorem nwP_rev {k j : Nat} {x : Int} (H : Hgt f k) (H' : Hgt f.reverse (f.length - 2 - k)) (hk : k + 1 < f.length) (hj : j ≤ f.length) : nwP f.reverse (f.length - 2 - k) (f.sum - x) j = f.sum - nwP f k x (f.length - j) := by
  by_cases c : j ≤ f.length - 2 - k
  · rw [nwP_lo c (H'.lo j (by omega)), nwP_hi (by omega) (H.hi _ (by omega) (by omega)), pre_rev hj]
    omega
  · by_cases c2 : j = f.length - 2 - k + 1
    · subst c2
      rw [nwP_k, show f.length - (f.length - 2 - k + 1) = k + 1 by omega, nwP_k]
    · rw [nwP_hi (by omega) (H'.hi j (by omega) (by rw [List.length_reverse]; exact hj)), nwP_lo (by omega) (H.lo _ (by omega)), pre_rev hj]
      omega
theorem drg_rev (R : Rw s l) {k : Nat} (hk : k + 1 < s.length) {num : Int} : drg s.reverse l.reverse (s.length - 2 - k) (-num) = (drg s l k num).reverse := by
  have R' := rw_rev R
  have H := hgt R hk
  have H' := hgt R' (k := s.length - 2 - k) (by rw [List.length_reverse]; omega)
  have fl' := frs_len R.len
  have hT := sum_nn R
  unfold drg
  rw [frs_rev R.len] at H' ⊢
  rw [← fl'] at H' hk ⊢
  rw [fl_rev, List.length_reverse, ← fl', pre_rev (by omega), List.sum_reverse, lim_mm hT, lim_mm hT, show (frs s l).length - ((frs s l).length - 2 - k + 1) = k + 1 by omega]
  have ex : min (max ((frs s l).sum - pre (frs s l) (k + 1) + -num) 0) (frs s l).sum = (frs s l).sum - min (max (pre (frs s l) (k + 1) + num) 0) (frs s l).sum := by
    omega
  rw [ex]
  refine fl_congr fun i hi => ?_
  rw [nwP_rev H H' hk (by omega), nwP_rev H H' hk (by omega), getD_rev (by rw [← R.len, ← fl']; exact hi), ← R.len, ← fl', show (frs s l).length - 1 - i + 1 = (frs s l).length - i by omega, show (frs s l).length - (i + 1) = (frs s l).length - 1 - i by omega]
  omega
def mir (n : Nat) (ds : List (Nat × Int)) : List (Nat × Int) := ds.map fun d => (n - 2 - d.1, -d.2)
theorem mir_ok {n : Nat} (h : DvOk n ds) : DvOk n (mir n ds) := fun d hd => by
  obtain ⟨e, he, rfl⟩ := List.mem_map.mp hd
  have := h e he
  show n - 2 - e.1 + 1 < n
  omega
theorem rndG_rev (R : Rw s l) (hd : DvOk s.length ds) : rndG l.reverse (mir s.length ds) s.reverse = (rndG l ds s).reverse := by
  induction ds generalizing s with
  | nil => rfl
  | cons d ds ih =>
    have hk := hd d List.mem_cons_self
    have R' := drg_rw R hk (a := d.2)
    have := ih R' fun e he => by rw [drg_len]; exact hd e (List.mem_cons_of_mem _ he)
    rw [drg_len] at this
    show rndG l.reverse (mir s.length ds) (drg s.reverse l.reverse (s.length - 2 - d.1) (-d.2)) = _
    rw [drg_rev R hk, this]
    rfl
theorem itrG_rev (R : Rw s l) (hd : DvOk s.length ds) : ∀ m, itrG l.reverse (mir s.length ds) s.reverse m = (itrG l ds s m).reverse
  | 0 => rfl
  | m + 1 => by
    have ih := itrG_rev R hd m
    have q := itrG_rw R hd m
    show rndG l.reverse (mir s.length ds) (itrG l.reverse (mir s.length ds) s.reverse m) = (rndG l ds (itrG l ds s m)).reverse
    rw [ih]
    have := rndG_rev q.1 (ds := ds) (by rw [q.2.1]; exact hd)
    rw [q.2.1] at this
    exact this
theorem hts_rev (e : s.length = l.length) : ((hts (frs s l)).reverse.map fun i => (frs s l).sum - i) = hts (frs s.reverse l.reverse) := by
  have e3 := frs_len e
  show ((fl ((frs s l).length - 1) fun i => pre (frs s l) (i + 1)).reverse.map fun i => (frs s l).sum - i) = fl ((frs s.reverse l.reverse).length - 1) fun i => pre (frs s.reverse l.reverse) (i + 1)
  rw [frs_rev e, fl_rev, List.length_reverse]
  have em : ∀ (n : Nat) (g : Nat → Int) (z : Int), (fl n g).map (fun i => z - i) = fl n fun i => z - g i := fun n g z => by unfold fl; rw [List.map_map]; rfl
  rw [em]
  refine fl_congr fun i hi => ?_
  rw [pre_rev (by omega), show (frs s l).length - 1 - 1 - i + 1 = (frs s l).length - (i + 1) by omega]
theorem ends_hts {j : Nat} (h1 : 1 ≤ f.length) (hj : j ≤ f.length) : ([0] ++ hts f ++ [f.sum]).getD j 0 = pre f j := by
  rw [getD_app, List.length_append, hts_len]
  simp only [List.length_cons, List.length_nil]
  by_cases h0 : j = 0
  · subst h0
    rw [if_pos (by omega)]
    rfl
  · by_cases hn : j = f.length
    · subst hn
      rw [if_neg (by omega), pre_all, show f.length - (0 + 1 + (f.length - 1)) = 0 by omega]
      rfl
    · rw [if_pos (by omega), getD_app, if_neg (by simp; omega)]
      simp only [List.length_cons, List.length_nil]
      rw [hts_get (by omega), show j - (0 + 1) + 1 = j by omega]
theorem swt_hts (R : Rw s l) : swt (hts (frs s l)) l s.sum = s := by
  have fl' := frs_len R.len
  have h2 := R.two
  unfold swt
  rw [← sum_frs R.len]
  apply List.ext_getElem?
  intro i
  by_cases hi : i < s.length
  · have hi2 : i < l.length := by rw [← R.len]; exact hi
    rw [List.getElem?_map, List.getElem?_zipIdx, List.getElem?_eq_getElem hi2, List.getElem?_eq_getElem hi]
    show some _ = some _
    simp only [Nat.zero_add]
    rw [ends_hts (by omega) (by omega), ends_hts (by omega) (by omega), pre_succ (by omega), frs_get R.len hi, List.getD_eq_getElem?_getD (l := l), List.getElem?_eq_getElem hi2, List.getD_eq_getElem?_getD, List.getElem?_eq_getElem hi]
    show some (l[i] + (pre (frs s l) i + (s[i] - l[i])) - pre (frs s l) i) = some s[i]
    congr 1
    omega
  · rw [List.getElem?_eq_none (by rw [List.length_map, List.length_zipIdx, ← R.len]; omega), List.getElem?_eq_none (by omega)]
end
end Bx

namespace Bx
open PySem PySem.Spec PyProof.Rows L2 Z
local macro_rules | `(tactic| walk_at "zz") => `(tactic| simp only [zSeq, zAsg, zRet, zRetN, zIfS, zNext, zDrop, zPar, zPar3, zVar, zC, zOp, zUn, zNeg, zI0, zI, zTest, zAnd, zOr, zNot, zAndV, zOrV, zNotV, zIf, zNil, zCons, zTup, zLst, zLstC, zgName, zgTup, zgCons, zgNil, zgSub, startZ, zCall, zCB, zChain, zIsN, zNotN, zNever,
  zAddA, zMulA, zRepeat, zCat, zIx, seqD, lstD, zMax2, zMin2, zAbs, zLen, zSum, zGcd, zInt, zYes, zBreak, zCont, zMin1, zMax1, zList, zListC, zLcC, zLc, ziR1, ziR2, ziList, ziTup, ziZip, ziEnum, wipeZ, zFor, zSl, zPart, zNoPart, zAppend, zLstR1, zLstR2, zCallBC, zCallBF,
  at0, at1, at2, at3, at4, ix2_3, ix0_3, isNon_int, isNon_non, Bool.not_true, Bool.not_false,
  List.map_cons, List.map_nil, List.length_cons, List.length_nil, List.replicate_succ, List.replicate_zero, List.append_nil, List.nil_append, List.cons_append, List.getElem?_cons_zero, List.getElem?_cons_succ, List.set_cons_zero, List.set_cons_succ,
  Option.some.injEq, D.int.injEq, D.bl.injEq, D.tup.injEq, D.lst.injEq, D.str.injEq, D.cell.injEq, O.lst.injEq, reduceCtorEq, exists_eq_left', exists_eq_left, false_and, and_false, true_and, and_true, exists_false, or_false, false_or, exists_and_left, exists_eq', exists_and_right, List.cons.injEq, and_assoc, dec_not, dec_yes, nd_t, nd_f, t_t, t_f, f_t, f_f, true_implies, false_implies, implies_true, and_self, Nat.reduceAdd, Nat.reduceLeDiff, Nat.reduceSub, Nat.reduceLT])
local macro_rules | `(tactic| walk_at "zy") => `(tactic| try simp only [Option.some.injEq, D.int.injEq, D.bl.injEq, D.tup.injEq, D.lst.injEq, D.str.injEq, D.cell.injEq, O.lst.injEq, reduceCtorEq, exists_eq_left', exists_eq_left, false_and, and_false, true_and, and_true, exists_false, or_false, false_or, exists_and_left, exists_eq', exists_and_right, List.cons.injEq, and_assoc, dec_not, dec_yes, nd_t, nd_f, t_t, t_f, f_t, f_f, true_implies, false_implies, implies_true, and_self])
section
variable {K : PySem.W.Frag} {C : CI} {Δ Δ' : Store} {P : D → Store → Prop} {d d2 : D} {s l f ns : List Int} {ds : List (Nat × Int)}
theorem lenS_map {P : List Int → Store → Prop} {Γ0 : Z.Env} {zg : ZG} {ze : ZE} {α : Type} {g : α → D} {f : α → Int} : ∀ (xs : List α) (acc : List Int), acc.length + xs.length ≤ 4000 → (∀ n ∈ xs, ∀ Q : D → Store → Prop, Q (.int (f n)) Δ → zg (g n) Γ0 Δ fun Γ2 Δ2 => ze Γ2 Δ2 Q) →
    P (acc ++ xs.map f) Δ → compS zg zYes ze Γ0 P (xs.map g) acc Δ
  | [], acc, _, _, h => by simpa [compS] using h
  | n :: ns, acc, hl, hs, h => by
    have hl' : acc.length + (ns.length + 1) ≤ 4000 := by simpa using hl
    show zg (g n) Γ0 Δ fun Γ2 Δ2 => (true = true → ze Γ2 Δ2 fun y Δ4 => ∃ k : Int, y = .int k ∧ acc.length < 4000 ∧ compS zg zYes ze Γ0 P (ns.map g) (acc ++ [k]) Δ4) ∧ (true = false → compS zg zYes ze Γ0 P (ns.map g) acc Δ2)
    simp only [true_implies, reduceCtorEq, false_implies, and_true]
    refine hs n List.mem_cons_self _ ⟨_, rfl, by omega, ?_⟩
    exact lenS_map ns (acc ++ [f n]) (by simp; omega) (fun m hm => hs m (List.mem_cons_of_mem _ hm)) (by simpa using h)
theorem have_one2 (hn : ds.length ≤ 100) (p : ∀ b : Bool, (b = true → ∃ k, ∀ d ∈ ds, d.1 = k) → P (.bl b) Δ) : W_have_one_divider K C [.lst (dgD ds)] Δ P := by
  unfold W_have_one_divider z_have_one_divider
  walk_at "zz"
  simp only [zLenS]
  walk_at "zz"
  unfold dgD
  refine lenS_map (f := fun d : Nat × Int => (d.1 : Int)) ds [] (by simp; omega) (fun n hn Q q => ?_) fun ks k1 k2 => ?_
  · walk_at "zz"
    exact q
  · refine eq_ints (p _ fun hb => ?_)
    have hl : ks.length = 1 := by
      have := beq_iff_eq.mp hb
      omega
    obtain ⟨z, rfl⟩ := List.length_eq_one_iff.mp hl
    refine ⟨z.toNat, fun d hd => ?_⟩
    have : (d.1 : Int) ∈ [z] := (k2 _).mpr (by rw [List.nil_append]; exact List.mem_map_of_mem hd)
    have := List.mem_singleton.mp this
    omega
theorem is_drag_ok {k n many : Int} (h0 : 0 ≤ k) (h1 : k < many) (p : P (.bl true) Δ) : W_is_drag K C [.tup [.int k, .int n], .int many] Δ P := by
  unfold W_is_drag z_is_drag
  walk_at "zz"
  refine isi_ty rfl (r := true) (by decide +kernel) ?_
  refine ⟨true, rfl, (fun q => nomatch q), fun _ => ?_⟩
  refine ne_ints rfl rfl ⟨false, rfl, (fun q => nomatch q), fun _ => ?_⟩
  refine is_int_ok ⟨true, rfl, fun _ => ⟨fun _ => ⟨fun _ => is_int_ok p, fun q => absurd h1 q⟩, fun q => absurd h0 q⟩, fun q => nomatch q⟩
theorem check_drags2 {many : Int} (h0 : ds ≠ []) (hn : ds.length ≤ 40) (h1 : ∀ d ∈ ds, (d.1 : Int) < many) (p : P .non Δ) : W_check_drags K C [.lst (dgD ds), .int many] Δ P := by
  have l0 := List.length_pos_iff.mpr h0
  have ld : (dgD ds).length = ds.length := List.length_map _
  unfold W_check_drags z_check_drags
  walk_at "zz"
  refine isi_ty rfl (r := true) (by decide +kernel) ?_
  try walk_at "zz"
  rw [ld]
  refine ⟨fun _ => ⟨fun q => by omega, fun _ => ?_⟩, fun q => by omega⟩
  unfold dgD
  refine comp_map (f := fun _ : Nat × Int => D.bl true) ds [] (by simp; omega) (fun i hi Q q => ?_) ?_
  · walk_at "zz"
    exact is_drag_ok (by omega) (h1 i hi) q
  · rw [List.nil_append]
    refine ⟨_, ds.map fun _ => true, rfl, by show some _ = some _; rw [List.map_map]; rfl, ?_⟩
    have e : (ds.map fun _ => true).all id = true := by
      rw [List.all_eq_true]
      intro b hb
      obtain ⟨i, _, rfl⟩ := List.mem_map.mp hb
      rfl
    rw [e]
    exact ⟨true, rfl, (fun q => nomatch q), fun _ => p⟩
/-- all to one side -/
def OneWay (ds : List (Nat × Int)) : Prop := (∀ d ∈ ds, 0 ≤ d.2) ∨ ∀ d ∈ ds, d.2 ≤ 0
theorem check_dirs2 (h0 : ds ≠ []) (hn : ds.length ≤ 40) (w : OneWay ds) (p : P .non Δ) : W_check_directions K C [.lst (dgD ds)] Δ P := by
  unfold W_check_directions z_check_directions
  refine ⟨rfl, ?_⟩
  refine seq_cut fun rest hr => ?_
  walk_at "zz"
  unfold dgD
  refine comp_map (f := fun d : Nat × Int => D.int d.2) ds [] (by simp; omega) (fun i hi Q q => ?_) ?_
  · walk_at "zz"
    exact q
  · rw [List.nil_append]
    have em : ds.map (fun d => D.int d.2) = (ds.map Prod.snd).map D.int := by rw [List.map_map]; rfl
    rw [em]
    have ne : ds.map Prod.snd ≠ [] := fun q => h0 (List.map_eq_nil_iff.mp q)
    subst hr
    walk_at "zz"
    refine have_one2 (by omega) fun b hb => ?_
    cases b with
    | true => exact ⟨true, rfl, (fun q => nomatch q), fun _ => p⟩
    | false =>
      refine ⟨false, rfl, fun _ => ⟨_, rfl, ne, fun m hm _ => ⟨fun h1 => ⟨_, rfl, ne, fun m2 hm2 _ => ⟨fun h2 => ?_, fun _ => p⟩⟩, fun _ => p⟩⟩, (fun q => nomatch q)⟩
      obtain ⟨d, hd, rfl⟩ := List.mem_map.mp hm
      obtain ⟨d', hd', rfl⟩ := List.mem_map.mp hm2
      rcases w with w | w
      · have := w d hd; omega
      · have := w d' hd'; omega
theorem drD_dgD {k : Nat} (h : ∀ d ∈ ds, d.1 = k) : ds = (ds.map Prod.snd).map fun n => (k, n) := by
  rw [List.map_map]
  conv => lhs; rw [← List.map_id ds]
  exact List.map_congr_left fun d hd => by
    obtain ⟨a, b⟩ := d
    have := h _ hd
    have this : a = k := this
    subst this
    rfl
theorem lowered_ok {m : Nat} (R : Rw s l) (hd : DvOk s.length ds) (hn : ds.length ≤ 40) (w : ∀ d ∈ ds, d.2 ≤ 0) (p : P (.lst (isD (hts (frs (itrG l ds s m) l)))) Δ) : W_lowered_by K C [.lst (isD (hts (frs s l))), .int (frs s l).sum, .lst (dgD ds), .int (m : Int)] Δ P := by
  have fl' := frs_len R.len
  have h4 := R.forty
  have h2 := R.two
  have R' := rw_rev R
  have hd' : DvOk s.reverse.length (mir s.length ds) := by rw [List.length_reverse]; exact mir_ok hd
  have Rm := itrG_rw R hd m
  have Rm' := rw_rev Rm.1
  have eT : (frs s.reverse l.reverse).sum = (frs s l).sum := by rw [frs_rev R.len, List.sum_reverse]
  have eT2 : (frs (itrG l ds s m).reverse l.reverse).sum = (frs s l).sum := by rw [frs_rev Rm.1.len, List.sum_reverse, sum_frs Rm.1.len, sum_frs R.len, Rm.2.2]
  have w' : ∀ d ∈ mir s.length ds, 0 ≤ d.2 := fun d hd => by
    obtain ⟨e, he, rfl⟩ := List.mem_map.mp hd
    have := w e he
    show 0 ≤ -e.2
    omega
  unfold W_lowered_by z_lowered_by
  refine ⟨rfl, ?_⟩
  refine seq_cut fun rest hr => ?_
  walk_at "zz"
  rw [isD_len, hts_len, fl']
  subst hr
  refine seq_cut fun rest hr => ?_
  walk_at "zz"
  unfold dgD
  refine comp_map (f := fun d : Nat × Int => D.tup [.int (((s.length - 1 : Nat) : Int) - 1 - (d.1 : Int)), .int (-d.2)]) ds [] (by simp; omega) (fun i hi Q q => ?_) ?_
  · walk_at "zz"
    exact q
  rw [List.nil_append]
  have em : ds.map (fun d : Nat × Int => D.tup [.int (((s.length - 1 : Nat) : Int) - 1 - (d.1 : Int)), .int (-d.2)]) = dgD (mir s.length ds) := by
    unfold dgD mir
    rw [List.map_map]
    refine List.map_congr_left fun d hd2 => ?_
    have := hd d hd2
    show _ = D.tup [.int ((s.length - 2 - d.1 : Nat) : Int), .int (-d.2)]
    rw [show (((s.length - 1 : Nat) : Int) - 1 - (d.1 : Int)) = ((s.length - 2 - d.1 : Nat) : Int) by omega]
  rw [em]
  subst hr
  walk_at "zz"
  refine seen_ok (by rw [hts_len]; omega) ?_
  rw [hts_rev R.len]
  have eh : hts (frs s.reverse l.reverse) = fl (s.length - 1) (HH s.reverse l.reverse) := by
    unfold hts
    rw [frs_len R'.len, List.length_reverse]
    rfl
  rw [eh]
  refine lifted_ok (by omega) (fun d hd2 => by have := hd' d hd2; rw [List.length_reverse] at this; omega) (HH_mono R') ?_
  have up := itrG_up R' hd' w' m
  rw [eT] at up
  rw [← up, itrG_rev R hd]
  have eh2 : fl (s.length - 1) (HH (itrG l ds s m).reverse l.reverse) = hts (frs (itrG l ds s m).reverse l.reverse) := by
    unfold hts
    rw [frs_len Rm'.len, List.length_reverse, Rm.2.1]
    rfl
  rw [eh2]
  refine seen_ok (by rw [hts_len, frs_len Rm'.len, List.length_reverse, Rm.2.1]; omega) ?_
  have hv := hts_rev Rm'.len
  rw [eT2, List.reverse_reverse, List.reverse_reverse] at hv
  rw [hv]
  exact p
/-- all the ways of repeated, for heights of a row -/
theorem rep_heights2 {m : Nat} (R : Rw s l) (hd : DvOk s.length ds) (w : OneWay ds) (h0 : ds ≠ []) (hn : ds.length ≤ 40) (hS : (ds.map Prod.snd).sum.natAbs < 2 ^ 200) (hm : (m : Int) < 10 ^ 30)
    (p : ∀ r hs, hs.length + 1 = l.length → swt hs l s.sum = itrG l ds s (m + 1) → P (.lst (isD hs)) (Δ ++ r)) : W_repeated_heights K C [.lst (isD (hts (frs s l))), .int (frs s l).sum, .lst (dgD ds), .int ((m + 1 : Nat) : Int)] Δ P := by
  have l0 := List.length_pos_iff.mpr h0
  have hg : (dgD ds)[0]? = some (.tup [.int ((ds[0].1 : Nat) : Int), .int (ds[0]'l0).2]) := dgD_get l0
  have h4 := R.forty
  have h2 := R.two
  have fl' := frs_len R.len
  have R2 := itrG_rw R hd (m + 1)
  have eT : (frs (itrG l ds s (m + 1)) l).sum = (frs s l).sum := by rw [sum_frs R2.1.len, sum_frs R.len, R2.2.2]
  have fin : ∀ hs, hs = hts (frs (itrG l ds s (m + 1)) l) → P (.lst (isD hs)) Δ := fun hs e => by
    have := p [] hs (by rw [e, hts_len, frs_len R2.1.len, R2.2.1, ← R.len]; omega) (by rw [e, ← R2.2.2, swt_hts R2.1])
    rw [List.append_nil] at this
    exact this
  unfold W_repeated_heights z_repeated_heights
  refine ⟨rfl, ?_⟩
  refine seq_cut fun rest hr => ?_
  walk_at "zz"
  have cm : ∀ {Q : D → Store → Prop}, Q (.lst (isD (ds.map Prod.snd))) Δ → compZ (zgTup 2 (zgCons (zgName 5) (zgCons (zgName 6) zgNil))) zYes (zVar 6) [some (.lst (isD (hts (frs s l)))), some (.int (frs s l).sum), some (.lst (dgD ds)), some (.int ((m + 1 : Nat) : Int)), none, none, none] Q (dgD ds) [] Δ := fun {Q} q => by
    unfold dgD
    refine comp_map (f := fun d : Nat × Int => D.int d.2) ds [] (by simp; omega) (fun i hi Q q => ?_) ?_
    · walk_at "zz"
      exact q
    · rw [List.nil_append]
      unfold isD at q
      rw [List.map_map] at q
      exact q
  refine cm ?_
  subst hr
  refine seq_cut fun rest hr => ?_
  walk_at "zz"
  refine have_one2 (by omega) fun b hb => ?_
  cases b with
  | true =>
    obtain ⟨k, hk⟩ := hb rfl
    have k0 := hk _ (List.getElem_mem l0)
    have hk1 : k + 1 < s.length := by rw [← k0]; exact hd _ (List.getElem_mem l0)
    have H := hgt R hk1
    refine ⟨true, rfl, fun _ => ?_, fun q => nomatch q⟩
    refine ⟨_, atI_nat (i := 0) hg, _, rfl, _, at0, ?_⟩
    rw [k0]
    have hed := drD_dgD hk
    have hns : (ds.map Prod.snd).length = ds.length := List.length_map _
    generalize ds.map Prod.snd = ns at *
    refine swung_ok (x0 := pre (frs s l) (k + 1)) (by rw [hts_len]; omega) (by rw [hts_len]; omega) (hts_get (by omega)) H.p0 H.pT (by omega) hS hm fun r => ?_
    have b1 := pmn_in (sum_nn R) ns _ H.p0 H.pT
    have b2 := pmx_in (sum_nn R) ns _ H.p0 H.pT
    have xi := xsr_in (sum_nn R) ns H.p0 H.pT m
    have b3 := pmn_in (sum_nn R) ns _ xi.1 xi.2
    have b4 := pmx_in (sum_nn R) ns _ xi.1 xi.2
    refine p r _ (by rw [swl_len (by rw [hts_len]; omega), hts_len, fl', ← R.len]; omega) ?_
    rw [swt_swl R hk1 (by omega) (by omega), ← itr_eq R hk1 ns m, hed, itrG_one]
  | false =>
    refine ⟨false, rfl, (fun q => nomatch q), fun _ => ?_⟩
    subst hr
    refine seq_cut fun rest hr => ?_
    walk_at "zz"
    have ne : ds.map Prod.snd ≠ [] := fun q => h0 (List.map_eq_nil_iff.mp q)
    refine ⟨_, rfl, ne, fun mm hm1 hm2 => ⟨fun hneg => ?_, fun hpos => ?_⟩⟩
    · have w2 : ∀ d ∈ ds, d.2 ≤ 0 := by
        rcases w with w | w
        · obtain ⟨d, hd, rfl⟩ := List.mem_map.mp hm1
          have := w d hd; omega
        · exact w
      exact lowered_ok R hd hn w2 (fin _ rfl)
    · have w2 : ∀ d ∈ ds, 0 ≤ d.2 := fun d hd => by
        have := hm2 _ (List.mem_map_of_mem hd)
        omega
      subst hr
      walk_at "zz"
      show W_lifted_by K C [.lst (isD (fl ((frs s l).length - 1) (HH s l))), .int (frs s l).sum, .lst (dgD ds), .int ((m + 1 : Nat) : Int)] Δ P
      refine lifted_ok (by omega) (fun d hd' => by have := hd d hd'; omega) (HH_mono R) (fin _ ?_)
      rw [← itrG_up R hd w2]
      unfold hts
      rw [frs_len R2.1.len, R2.2.1, fl']
      rfl
end
end Bx

namespace Bx
open PySem PySem.Spec PyProof.Rows L2 Z
local macro_rules | `(tactic| walk_at "zz") => `(tactic| simp only [zSeq, zAsg, zRet, zRetN, zIfS, zNext, zDrop, zPar, zPar3, zVar, zC, zOp, zUn, zNeg, zI0, zI, zTest, zAnd, zOr, zNot, zAndV, zOrV, zNotV, zIf, zNil, zCons, zTup, zLst, zLstC, zgName, zgTup, zgCons, zgNil, zgSub, startZ, zCall, zCB, zChain, zIsN, zNotN, zNever,
  zAddA, zMulA, zRepeat, zCat, zIx, seqD, lstD, zMax2, zMin2, zAbs, zLen, zSum, zGcd, zInt, zYes, zBreak, zCont, zMin1, zMax1, zList, zListC, zLcC, zLc, ziR1, ziR2, ziList, ziTup, ziZip, ziEnum, wipeZ, zFor, zSl, zPart, zNoPart, zAppend, zLstR1, zLstR2, zCallBC, zCallBF,
  at0, at1, at2, at3, at4, ix2_3, ix0_3, isNon_int, isNon_non, Bool.not_true, Bool.not_false,
  List.map_cons, List.map_nil, List.length_cons, List.length_nil, List.replicate_succ, List.replicate_zero, List.append_nil, List.nil_append, List.cons_append, List.getElem?_cons_zero, List.getElem?_cons_succ, List.set_cons_zero, List.set_cons_succ,
  Option.some.injEq, D.int.injEq, D.bl.injEq, D.tup.injEq, D.lst.injEq, D.str.injEq, D.cell.injEq, O.lst.injEq, reduceCtorEq, exists_eq_left', exists_eq_left, false_and, and_false, true_and, and_true, exists_false, or_false, false_or, exists_and_left, exists_eq', exists_and_right, List.cons.injEq, and_assoc, dec_not, dec_yes, nd_t, nd_f, t_t, t_f, f_t, f_f, true_implies, false_implies, implies_true, and_self, Nat.reduceAdd, Nat.reduceLeDiff, Nat.reduceSub, Nat.reduceLT])
local macro_rules | `(tactic| walk_at "zy") => `(tactic| try simp only [Option.some.injEq, D.int.injEq, D.bl.injEq, D.tup.injEq, D.lst.injEq, D.str.injEq, D.cell.injEq, O.lst.injEq, reduceCtorEq, exists_eq_left', exists_eq_left, false_and, and_false, true_and, and_true, exists_false, or_false, false_or, exists_and_left, exists_eq', exists_and_right, List.cons.injEq, and_assoc, dec_not, dec_yes, nd_t, nd_f, t_t, t_f, f_t, f_f, true_implies, false_implies, implies_true, and_self])
/-! ### what repr shows of lists, tuples and ints -/
theorem ok_app {x y : Str} (hx : PyData.strOk x = true) (hy : PyData.strOk y = true) : PyData.strOk (x ++ y) = true := by
  show (x.cps ++ y.cps).all _ = true
  rw [Array.all_append]
  exact Bool.and_eq_true_iff.mpr ⟨hx, hy⟩
theorem ok_of (s : String) : PyData.strOk (Str.ofString s) = true := by
  rw [Str.ofString_eq_toList]
  unfold PyData.strOk
  simp only [List.all_toArray, List.all_map, List.all_eq_true, Function.comp, decide_eq_true_eq]
  intro c _
  have := c.valid
  unfold UInt32.isValidChar Nat.isValidChar at this
  show c.val.toNat < 0x110000
  omega
theorem ok_text : ∀ (ts : List Str) (k : Nat) (acc : Str), PyData.strOk acc = true → (∀ t ∈ ts, PyData.strOk t = true) → PyData.strOk (textFrom k acc ts) = true
  | [], _, _, h, _ => h
  | t :: ts, k, acc, h, ht => by
    show PyData.strOk (textFrom (k + 1) (acc ++ (if k > 0 then ", " else "" : String) ++ t) ts) = true
    exact ok_text ts _ _ (ok_app (ok_app h (ok_of _)) (ht t List.mem_cons_self)) fun u hu => ht u (List.mem_cons_of_mem _ hu)
/-- shown in at most n letters, m deep -/
structure Tx1 (n m : Nat) (d : D) : Prop where
  pl : plainD d = true
  sh : (pd d).showable = true
  dp : (pd d).depth ≤ m
  sz : (pd d).shown.length ≤ n
  ok : PyData.strOk (pd d).shown = true
theorem Tx1.mono {n m n' m' : Nat} {d : D} (h : Tx1 n m d) (h1 : n ≤ n') (h2 : m ≤ m') : Tx1 n' m' d := ⟨h.pl, h.sh, Nat.le_trans h.dp h2, Nat.le_trans h.sz h1, h.ok⟩
theorem tx_int {i : Int} (h : i.natAbs < 2 ^ 500) : Tx1 501 0 (.int i) := by
  have lg : i.natAbs.log2 < 500 := by
    rcases Nat.eq_zero_or_pos i.natAbs with h0 | hp
    · rw [h0]; decide
    · exact (Nat.log2_lt (Nat.ne_of_gt hp)).mpr h
  refine ⟨rfl, decide_eq_true (by omega), Nat.le_refl _, ?_, ok_of _⟩
  show (Str.ofString (toString i)).length ≤ 501
  rw [PySem.ofString_length]
  exact int_text_length_le (by decide) lg
theorem tx_pair {a b : Int} (ha : a.natAbs < 2 ^ 500) (hb : b.natAbs < 2 ^ 500) : Tx1 1009 1 (.tup [.int a, .int b]) := by
  have h1 := tx_int ha
  have h2 := tx_int hb
  refine ⟨rfl, ?_, ?_, ?_, ?_⟩
  · show (PyData.showable (.int a) && (PyData.showable (.int b) && true)) = true
    have e1 : PyData.showable (.int a) = true := h1.sh
    have e2 : PyData.showable (.int b) = true := h2.sh
    rw [e1, e2]
    rfl
  · show max 0 (max 0 0) + 1 ≤ 1
    omega
  · show (tupleText [PyData.shown (.int a), PyData.shown (.int b)]).length ≤ 1009
    refine Nat.le_trans (tupleText_len_le _) ?_
    have e1 : (PyData.shown (.int a)).length ≤ 501 := h1.sz
    have e2 : (PyData.shown (.int b)).length ≤ 501 := h2.sz
    simp only [List.map_cons, List.map_nil, List.sum_cons, List.sum_nil, List.length_cons, List.length_nil]
    omega
  · show PyData.strOk (Str.ofString "(" ++ (PyData.shown (.int a) ++ Str.ofString ", " ++ PyData.shown (.int b)) ++ Str.ofString ")") = true
    exact ok_app (ok_app (ok_of _) (ok_app (ok_app h1.ok (ok_of _)) h2.ok)) (ok_of _)
theorem tx_all {n m : Nat} : ∀ {ds : List D}, (∀ d ∈ ds, Tx1 n m d) → plainDs ds = true ∧ PyData.showableAll (pds ds) = true ∧ PyData.depthAll (pds ds) ≤ m ∧ ((PyData.shownAll (pds ds)).map (·.length)).sum ≤ ds.length * n ∧ (PyData.shownAll (pds ds)).length = ds.length ∧ ∀ t ∈ PyData.shownAll (pds ds), PyData.strOk t = true
  | [], _ => ⟨rfl, rfl, Nat.zero_le _, Nat.zero_le _, rfl, fun _ h => nomatch h⟩
  | d :: ds, h => by
    have q := h d List.mem_cons_self
    obtain ⟨h1, h2, h3, h4, h5, h6⟩ := tx_all fun e he => h e (List.mem_cons_of_mem _ he)
    refine ⟨?_, ?_, ?_, ?_, ?_, fun t ht => ?_⟩
    · show (plainD d && plainDs ds) = true
      rw [q.pl, h1]; rfl
    · show (PyData.showable (pd d) && PyData.showableAll (pds ds)) = true
      rw [q.sh, h2]; rfl
    · exact Nat.max_le.mpr ⟨q.dp, h3⟩
    · show (PyData.shown (pd d)).length + ((PyData.shownAll (pds ds)).map (·.length)).sum ≤ (ds.length + 1) * n
      have := q.sz
      rw [Nat.succ_mul]
      omega
    · show (PyData.shownAll (pds ds)).length + 1 = ds.length + 1
      rw [h5]
    · rcases List.mem_cons.mp (show t ∈ PyData.shown (pd d) :: PyData.shownAll (pds ds) from ht) with rfl | ht
      · exact q.ok
      · exact h6 t ht
theorem tx_list {n m : Nat} {ds : List D} (h : ∀ d ∈ ds, Tx1 n m d) : Tx1 (ds.length * n + 2 * ds.length + 3) (m + 1) (.lst ds) := by
  obtain ⟨h1, h2, h3, h4, h5, h6⟩ := tx_all h
  refine ⟨h1, h2, ?_, ?_, ?_⟩
  · show PyData.depthAll (pds ds) + 1 ≤ m + 1
    omega
  · show (listText (PyData.shownAll (pds ds))).length ≤ _
    refine Nat.le_trans (listText_len_le _) ?_
    omega
  · show PyData.strOk (textFrom 0 "[" (PyData.shownAll (pds ds)) ++ Str.ofString "]") = true
    exact ok_app (ok_text _ _ _ (ok_of _) h6) (ok_of _)
theorem Tx1.show {n m : Nat} {d : D} (h : Tx1 n m d) (h1 : n ≤ 1000000) (h2 : m ≤ 60) : Showable d := ⟨h.pl, h.sh, Nat.le_trans h.dp h2, Nat.le_trans h.sz (by rw [sizeLine_eq]; omega)⟩
theorem shp_str {x : Str} (h : PyData.strOk x = true) : shp (.str x) = true := by
  show (true && (PyData.strOk x && decide _)) = true
  rw [h]
  rfl
end Bx

namespace Bx
open PySem PySem.Spec PyProof.Rows L2 Z
local macro_rules | `(tactic| walk_at "zz") => `(tactic| simp only [zSeq, zAsg, zRet, zRetN, zIfS, zNext, zDrop, zPar, zPar3, zVar, zC, zOp, zUn, zNeg, zI0, zI, zTest, zAnd, zOr, zNot, zAndV, zOrV, zNotV, zIf, zNil, zCons, zTup, zLst, zLstC, zgName, zgTup, zgCons, zgNil, zgSub, startZ, zCall, zCB, zChain, zIsN, zNotN, zNever,
  zAddA, zMulA, zRepeat, zCat, zIx, seqD, lstD, zMax2, zMin2, zAbs, zLen, zSum, zGcd, zInt, zYes, zBreak, zCont, zMin1, zMax1, zList, zListC, zLcC, zLc, ziR1, ziR2, ziList, ziTup, ziZip, ziEnum, wipeZ, zFor, zSl, zPart, zNoPart, zAppend, zLstR1, zLstR2, zCallBC, zCallBF,
  at0, at1, at2, at3, at4, ix2_3, ix0_3, isNon_int, isNon_non, Bool.not_true, Bool.not_false,
  List.map_cons, List.map_nil, List.length_cons, List.length_nil, List.replicate_succ, List.replicate_zero, List.append_nil, List.nil_append, List.cons_append, List.getElem?_cons_zero, List.getElem?_cons_succ, List.set_cons_zero, List.set_cons_succ,
  Option.some.injEq, D.int.injEq, D.bl.injEq, D.tup.injEq, D.lst.injEq, D.str.injEq, D.cell.injEq, O.lst.injEq, reduceCtorEq, exists_eq_left', exists_eq_left, false_and, and_false, true_and, and_true, exists_false, or_false, false_or, exists_and_left, exists_eq', exists_and_right, List.cons.injEq, and_assoc, dec_not, dec_yes, nd_t, nd_f, t_t, t_f, f_t, f_f, true_implies, false_implies, implies_true, and_self, Nat.reduceAdd, Nat.reduceLeDiff, Nat.reduceSub, Nat.reduceLT])
local macro_rules | `(tactic| walk_at "zy") => `(tactic| try simp only [Option.some.injEq, D.int.injEq, D.bl.injEq, D.tup.injEq, D.lst.injEq, D.str.injEq, D.cell.injEq, O.lst.injEq, reduceCtorEq, exists_eq_left', exists_eq_left, false_and, and_false, true_and, and_true, exists_false, or_false, false_or, exists_and_left, exists_eq', exists_and_right, List.cons.injEq, and_assoc, dec_not, dec_yes, nd_t, nd_f, t_t, t_f, f_t, f_f, true_implies, false_implies, implies_true, and_self])
section
variable {K : PySem.W.Frag} {C : CI} {Δ Δ' E : Store} {P : D → Store → Prop} {d d2 dr : D} {s l f ns : List Int} {xs : List D} {ds : List (Nat × Int)}
theorem repeated2 {m : Nat} (R : Rw s l) (h12 : s.length ≤ 12) (hd : DvOk s.length ds) (w : OneWay ds) (h0 : ds ≠ []) (hn : ds.length ≤ 40) (hS : (ds.map Prod.snd).sum.natAbs < 2 ^ 200) (hm : (m : Int) ≤ 10 ^ 30) (p : ∀ c E, E[c]? = some (.lst (isD (itrG l ds s m))) → P (.cell c) E) :
    W_repeated K C [.lst (isD s), .lst (isD l), .lst (dgD ds), .int (m : Int)] Δ P := by
  have fl' := frs_len R.len
  have h4 := R.forty
  have h2 := R.two
  unfold W_repeated z_repeated
  refine ⟨rfl, ?_⟩
  refine seq_cut fun rest hr => ?_
  walk_at "zz"
  refine check_sizes_ok R ?_
  subst hr
  refine seq_cut fun rest hr => ?_
  walk_at "zz"
  rw [isD_len]
  refine check_drags2 h0 hn (fun d hd' => by have := hd d hd'; omega) ?_
  subst hr
  refine seq_cut fun rest hr => ?_
  walk_at "zz"
  refine is_int_ok ?_
  try walk_at "zz"
  refine ⟨fun _ => ⟨fun q => by omega, fun _ => ?_⟩, fun q => by omega⟩
  subst hr
  refine seq_cut fun rest hr => ?_
  walk_at "zz"
  refine check_dirs2 h0 hn w ?_
  subst hr
  refine seq_cut fun rest hr => ?_
  walk_at "zz"
  rw [isD_len]
  refine ⟨fun q => by omega, fun _ => ?_⟩
  subst hr
  refine seq_cut fun rest hr => ?_
  walk_at "zz"
  refine eq_ints ?_
  by_cases m0 : m = 0
  · subst m0
    refine ⟨true, rfl, fun _ => ?_, fun q => nomatch q⟩
    exact p _ _ last_at
  · obtain ⟨j, rfl⟩ : ∃ j, m = j + 1 := ⟨m - 1, by omega⟩
    have e : (((j + 1 : Nat) : Int) == 0) = false := by
      rw [beq_eq_false_iff_ne]
      omega
    rw [e]
    refine ⟨false, rfl, (fun q => nomatch q), fun _ => ?_⟩
    subst hr
    refine seq_cut fun rest hr => ?_
    walk_at "zz"
    refine heights_ok R.len (by omega) (by omega) ?_
    refine frees_ok (by omega) ?_
    refine ⟨_, rfl, ?_⟩
    refine rep_heights2 R hd w h0 hn hS (by omega) fun r hs hl he => ?_
    subst hr
    walk_at "zz"
    refine ⟨_, rfl, ?_⟩
    refine swt_ok hl (by rw [← R.len]; omega) ?_
    rw [he]
    exact p _ _ last_at
theorem rdk_dgD : ∀ (ds : List (Nat × Int)) {j : Nat}, (dgD ds).map (Z.rdk Δ (j + 1)) = dgD ds
  | [], _ => rfl
  | d :: ds, j => by
    have ih := rdk_dgD ds (j := j)
    show Z.rdk Δ (j + 1) (.tup [.int (d.1 : Int), .int d.2]) :: (dgD ds).map (Z.rdk Δ (j + 1)) = _
    rw [ih]
    have e : Z.rdk Δ (j + 1) (.tup [.int (d.1 : Int), .int d.2]) = .tup [.int (d.1 : Int), .int d.2] := by
      show D.tup [Z.rdk Δ j _, Z.rdk Δ j _] = _
      cases j <;> rfl
    rw [e]
    rfl
theorem below_dgD : ∀ ds : List (Nat × Int), Z.belowL 0 (dgD ds) = true
  | [] => rfl
  | d :: ds => by
    show (true && Z.belowL 0 (dgD ds)) = true
    rw [below_dgD ds]
    rfl
/-- a list of data: itself, or a cell's content -/
def Lx (Δ : Store) (d : D) (xs : List D) : Prop := d = .lst xs ∨ ∃ n, d = .cell n ∧ Δ[n]? = some (.lst xs)
theorem Lx.thaw (h : Lx Δ d xs) : Z.thaw Δ d = .lst xs := by
  rcases h with rfl | ⟨n, rfl, e⟩
  · rfl
  · unfold Z.thaw; simp only [e]
theorem Lx.app (h : Lx Δ d xs) (r : Store) : Lx (Δ ++ r) d xs := by
  rcases h with h | ⟨n, h, e⟩
  · exact .inl h
  · exact .inr ⟨n, h, by rw [List.getElem?_append_left (List.getElem?_eq_some_iff.mp e).1]; exact e⟩
theorem Lx.ex {n : Nat} (h : Lx Δ d xs) (o : Ex n Δ E) (hn : d ≠ .cell n) : Lx E d xs := by
  rcases h with h | ⟨m, rfl, e⟩
  · exact .inl h
  · exact .inr ⟨m, rfl, by rw [o.at_ m (List.getElem?_eq_some_iff.mp e).1 fun q => hn (by rw [q])]; exact e⟩
theorem Lx.rdk {j : Nat} (h : Lx Δ d (dgD ds)) : Z.rdk Δ (j + 2) d = .lst (dgD ds) := by
  rcases h with rfl | ⟨n, rfl, e⟩
  · show D.lst ((dgD ds).map (Z.rdk Δ (j + 1))) = _
    rw [rdk_dgD]
  · unfold Z.rdk; simp only [e]; rw [rdk_dgD]
theorem lent_rep2 {m : Nat} (R : Rw s l) (h12 : s.length ≤ 12) (hd : DvOk s.length ds) (w : OneWay ds) (h0 : ds ≠ []) (hn : ds.length ≤ 40) (hS : (ds.map Prod.snd).sum.natAbs < 2 ^ 200) (hm : (m : Int) ≤ 10 ^ 30) (hs : Ls Δ d s) (hl : Ls Δ d2 l) (hr : Lx Δ dr (dgD ds))
    (p : P (.cell Δ.length) (Δ ++ [.lst (isD (itrG l ds s m))])) : lentC (W_repeated K C) [d, d2, dr, .int (m : Int)] Δ P := by
  have e : List.map (Z.thaw Δ) [d, d2, dr, .int (m : Int)] = [.lst (isD s), .lst (isD l), .lst (dgD ds), .int (m : Int)] := by
    show [Z.thaw Δ d, Z.thaw Δ d2, Z.thaw Δ dr, _] = _
    rw [hs.thaw, hl.thaw, hr.thaw]
    rfl
  unfold lentC
  rw [e]
  refine ⟨?_, repeated2 R h12 hd w h0 hn hS hm fun c E hE => ?_⟩
  · show (Z.belowL 0 (isD s) && (Z.belowL 0 (isD l) && (Z.belowL 0 (dgD ds) && true))) = true
    rw [below_ints, below_ints, below_dgD]
    rfl
  · exact ⟨_, _, rfl, hE, bare_ints _, p⟩
theorem rndG_snoc2 (n : Nat × Int) : rndG l (ds ++ [n]) s = drg (rndG l ds s) l n.1 n.2 := rndG_snoc
end
end Bx

namespace Bx
open PySem PySem.Spec PyProof.Rows L2 Z
local macro_rules | `(tactic| walk_at "zz") => `(tactic| simp only [zSeq, zAsg, zRet, zRetN, zIfS, zNext, zDrop, zPar, zPar3, zVar, zC, zOp, zUn, zNeg, zI0, zI, zTest, zAnd, zOr, zNot, zAndV, zOrV, zNotV, zIf, zNil, zCons, zTup, zLst, zLstC, zgName, zgTup, zgCons, zgNil, zgSub, startZ, zCall, zCB, zChain, zIsN, zNotN, zNever,
  zAddA, zMulA, zRepeat, zCat, zIx, seqD, lstD, zMax2, zMin2, zAbs, zLen, zSum, zGcd, zInt, zYes, zBreak, zCont, zMin1, zMax1, zList, zListC, zLcC, zLc, ziR1, ziR2, ziList, ziTup, ziZip, ziEnum, wipeZ, zFor, zSl, zPart, zNoPart, zAppend, zLstR1, zLstR2, zCallBC, zCallBF,
  at0, at1, at2, at3, at4, ix2_3, ix0_3, isNon_int, isNon_non, Bool.not_true, Bool.not_false,
  List.map_cons, List.map_nil, List.length_cons, List.length_nil, List.replicate_succ, List.replicate_zero, List.append_nil, List.nil_append, List.cons_append, List.getElem?_cons_zero, List.getElem?_cons_succ, List.set_cons_zero, List.set_cons_succ,
  Option.some.injEq, D.int.injEq, D.bl.injEq, D.tup.injEq, D.lst.injEq, D.str.injEq, D.cell.injEq, O.lst.injEq, reduceCtorEq, exists_eq_left', exists_eq_left, false_and, and_false, true_and, and_true, exists_false, or_false, false_or, exists_and_left, exists_eq', exists_and_right, List.cons.injEq, and_assoc, dec_not, dec_yes, nd_t, nd_f, t_t, t_f, f_t, f_f, true_implies, false_implies, implies_true, and_self, Nat.reduceAdd, Nat.reduceLeDiff, Nat.reduceSub, Nat.reduceLT])
local macro_rules | `(tactic| walk_at "zy") => `(tactic| try simp only [Option.some.injEq, D.int.injEq, D.bl.injEq, D.tup.injEq, D.lst.injEq, D.str.injEq, D.cell.injEq, O.lst.injEq, reduceCtorEq, exists_eq_left', exists_eq_left, false_and, and_false, true_and, and_true, exists_false, or_false, false_or, exists_and_left, exists_eq', exists_and_right, List.cons.injEq, and_assoc, dec_not, dec_yes, nd_t, nd_f, t_t, t_f, f_t, f_f, true_implies, false_implies, implies_true, and_self])
section
variable {K : PySem.W.Frag} {C : CI} {Δ Δ' E : Store} {P : D → Store → Prop} {d d2 dr : D} {s l f ns : List Int} {xs : List D} {ds : List (Nat × Int)}
theorem have_one3 (h0 : ds ≠ []) (hn : ds.length ≤ 100) (p : ∀ b : Bool, (b = true → ∃ k, ∀ d ∈ ds, d.1 = k) → ((∃ k, ∀ d ∈ ds, d.1 = k) → b = true) → P (.bl b) Δ) : W_have_one_divider K C [.lst (dgD ds)] Δ P := by
  unfold W_have_one_divider z_have_one_divider
  walk_at "zz"
  simp only [zLenS]
  walk_at "zz"
  unfold dgD
  refine lenS_map (f := fun d : Nat × Int => (d.1 : Int)) ds [] (by simp; omega) (fun n hn Q q => ?_) fun ks k1 k2 => ?_
  · walk_at "zz"
    exact q
  · refine eq_ints (p _ (fun hb => ?_) fun hk => ?_)
    · have hl : ks.length = 1 := by
        have := beq_iff_eq.mp hb
        omega
      obtain ⟨z, rfl⟩ := List.length_eq_one_iff.mp hl
      refine ⟨z.toNat, fun d hd => ?_⟩
      have : (d.1 : Int) ∈ [z] := (k2 _).mpr (by rw [List.nil_append]; exact List.mem_map_of_mem hd)
      have := List.mem_singleton.mp this
      omega
    · obtain ⟨k, hk⟩ := hk
      have l0 := List.length_pos_iff.mpr h0
      have hin : ((ds[0].1 : Nat) : Int) ∈ ks := (k2 _).mpr (by rw [List.nil_append]; exact List.mem_map_of_mem (List.getElem_mem l0))
      have hone : ∀ z ∈ ks, z = (k : Int) := fun z hz => by
        have := (k2 z).mp hz
        rw [List.nil_append] at this
        obtain ⟨d, hd, rfl⟩ := List.mem_map.mp this
        rw [hk d hd]
      have hl : ks.length = 1 := by
        match ks, k1, hin, hone with
        | [z], _, _, _ => rfl
        | z :: w :: r, nd, _, ho =>
          have e1 := ho z List.mem_cons_self
          have e2 := ho w (List.mem_cons_of_mem _ List.mem_cons_self)
          rw [e1, e2] at nd
          simp at nd
      rw [hl]
      rfl
/-- one way, or one divider -/
def Way2 (ds : List (Nat × Int)) : Prop := OneWay ds ∨ ∃ k, ∀ d ∈ ds, d.1 = k
theorem check_dirs3 (h0 : ds ≠ []) (hn : ds.length ≤ 40) (w : Way2 ds) (p : P .non Δ) : W_check_directions K C [.lst (dgD ds)] Δ P := by
  unfold W_check_directions z_check_directions
  refine ⟨rfl, ?_⟩
  refine seq_cut fun rest hr => ?_
  walk_at "zz"
  unfold dgD
  refine comp_map (f := fun d : Nat × Int => D.int d.2) ds [] (by simp; omega) (fun i hi Q q => ?_) ?_
  · walk_at "zz"
    exact q
  · rw [List.nil_append]
    have em : ds.map (fun d => D.int d.2) = (ds.map Prod.snd).map D.int := by rw [List.map_map]; rfl
    rw [em]
    have ne : ds.map Prod.snd ≠ [] := fun q => h0 (List.map_eq_nil_iff.mp q)
    subst hr
    walk_at "zz"
    refine have_one3 h0 (by omega) fun b hb hb2 => ?_
    cases b with
    | true => exact ⟨true, rfl, (fun q => nomatch q), fun _ => p⟩
    | false =>
      replace w : OneWay ds := w.elim id fun q => nomatch hb2 q
      refine ⟨false, rfl, fun _ => ⟨_, rfl, ne, fun m hm _ => ⟨fun h1 => ⟨_, rfl, ne, fun m2 hm2 _ => ⟨fun h2 => ?_, fun _ => p⟩⟩, fun _ => p⟩⟩, (fun q => nomatch q)⟩
      obtain ⟨d, hd, rfl⟩ := List.mem_map.mp hm
      obtain ⟨d', hd', rfl⟩ := List.mem_map.mp hm2
      rcases w with w | w
      · have := w d hd; omega
      · have := w d' hd'; omega
/-- all the ways of repeated, for heights of a row -/
theorem rep_heights3 {m : Nat} (R : Rw s l) (hd : DvOk s.length ds) (w : Way2 ds) (h0 : ds ≠ []) (hn : ds.length ≤ 40) (hS : (ds.map Prod.snd).sum.natAbs < 2 ^ 200) (hm : (m : Int) < 10 ^ 30)
    (p : ∀ r hs, hs.length + 1 = l.length → swt hs l s.sum = itrG l ds s (m + 1) → P (.lst (isD hs)) (Δ ++ r)) : W_repeated_heights K C [.lst (isD (hts (frs s l))), .int (frs s l).sum, .lst (dgD ds), .int ((m + 1 : Nat) : Int)] Δ P := by
  have l0 := List.length_pos_iff.mpr h0
  have hg : (dgD ds)[0]? = some (.tup [.int ((ds[0].1 : Nat) : Int), .int (ds[0]'l0).2]) := dgD_get l0
  have h4 := R.forty
  have h2 := R.two
  have fl' := frs_len R.len
  have R2 := itrG_rw R hd (m + 1)
  have eT : (frs (itrG l ds s (m + 1)) l).sum = (frs s l).sum := by rw [sum_frs R2.1.len, sum_frs R.len, R2.2.2]
  have fin : ∀ hs, hs = hts (frs (itrG l ds s (m + 1)) l) → P (.lst (isD hs)) Δ := fun hs e => by
    have := p [] hs (by rw [e, hts_len, frs_len R2.1.len, R2.2.1, ← R.len]; omega) (by rw [e, ← R2.2.2, swt_hts R2.1])
    rw [List.append_nil] at this
    exact this
  unfold W_repeated_heights z_repeated_heights
  refine ⟨rfl, ?_⟩
  refine seq_cut fun rest hr => ?_
  walk_at "zz"
  have cm : ∀ {Q : D → Store → Prop}, Q (.lst (isD (ds.map Prod.snd))) Δ → compZ (zgTup 2 (zgCons (zgName 5) (zgCons (zgName 6) zgNil))) zYes (zVar 6) [some (.lst (isD (hts (frs s l)))), some (.int (frs s l).sum), some (.lst (dgD ds)), some (.int ((m + 1 : Nat) : Int)), none, none, none] Q (dgD ds) [] Δ := fun {Q} q => by
    unfold dgD
    refine comp_map (f := fun d : Nat × Int => D.int d.2) ds [] (by simp; omega) (fun i hi Q q => ?_) ?_
    · walk_at "zz"
      exact q
    · rw [List.nil_append]
      unfold isD at q
      rw [List.map_map] at q
      exact q
  refine cm ?_
  subst hr
  refine seq_cut fun rest hr => ?_
  walk_at "zz"
  refine have_one3 h0 (by omega) fun b hb hb2 => ?_
  cases b with
  | true =>
    obtain ⟨k, hk⟩ := hb rfl
    have k0 := hk _ (List.getElem_mem l0)
    have hk1 : k + 1 < s.length := by rw [← k0]; exact hd _ (List.getElem_mem l0)
    have H := hgt R hk1
    refine ⟨true, rfl, fun _ => ?_, fun q => nomatch q⟩
    refine ⟨_, atI_nat (i := 0) hg, _, rfl, _, at0, ?_⟩
    rw [k0]
    have hed := drD_dgD hk
    have hns : (ds.map Prod.snd).length = ds.length := List.length_map _
    generalize ds.map Prod.snd = ns at *
    refine swung_ok (x0 := pre (frs s l) (k + 1)) (by rw [hts_len]; omega) (by rw [hts_len]; omega) (hts_get (by omega)) H.p0 H.pT (by omega) hS hm fun r => ?_
    have b1 := pmn_in (sum_nn R) ns _ H.p0 H.pT
    have b2 := pmx_in (sum_nn R) ns _ H.p0 H.pT
    have xi := xsr_in (sum_nn R) ns H.p0 H.pT m
    have b3 := pmn_in (sum_nn R) ns _ xi.1 xi.2
    have b4 := pmx_in (sum_nn R) ns _ xi.1 xi.2
    refine p r _ (by rw [swl_len (by rw [hts_len]; omega), hts_len, fl', ← R.len]; omega) ?_
    rw [swt_swl R hk1 (by omega) (by omega), ← itr_eq R hk1 ns m, hed, itrG_one]
  | false =>
    replace w : OneWay ds := w.elim id fun q => nomatch hb2 q
    refine ⟨false, rfl, (fun q => nomatch q), fun _ => ?_⟩
    subst hr
    refine seq_cut fun rest hr => ?_
    walk_at "zz"
    have ne : ds.map Prod.snd ≠ [] := fun q => h0 (List.map_eq_nil_iff.mp q)
    refine ⟨_, rfl, ne, fun mm hm1 hm2 => ⟨fun hneg => ?_, fun hpos => ?_⟩⟩
    · have w2 : ∀ d ∈ ds, d.2 ≤ 0 := by
        rcases w with w | w
        · obtain ⟨d, hd, rfl⟩ := List.mem_map.mp hm1
          have := w d hd; omega
        · exact w
      exact lowered_ok R hd hn w2 (fin _ rfl)
    · have w2 : ∀ d ∈ ds, 0 ≤ d.2 := fun d hd => by
        have := hm2 _ (List.mem_map_of_mem hd)
        omega
      subst hr
      walk_at "zz"
      show W_lifted_by K C [.lst (isD (fl ((frs s l).length - 1) (HH s l))), .int (frs s l).sum, .lst (dgD ds), .int ((m + 1 : Nat) : Int)] Δ P
      refine lifted_ok (by omega) (fun d hd' => by have := hd d hd'; omega) (HH_mono R) (fin _ ?_)
      rw [← itrG_up R hd w2]
      unfold hts
      rw [frs_len R2.1.len, R2.2.1, fl']
      rfl
theorem repeated3 {m : Nat} (R : Rw s l) (h12 : s.length ≤ 12) (hd : DvOk s.length ds) (w : Way2 ds) (h0 : ds ≠ []) (hn : ds.length ≤ 40) (hS : (ds.map Prod.snd).sum.natAbs < 2 ^ 200) (hm : (m : Int) ≤ 10 ^ 30) (p : ∀ c E, E[c]? = some (.lst (isD (itrG l ds s m))) → P (.cell c) E) :
    W_repeated K C [.lst (isD s), .lst (isD l), .lst (dgD ds), .int (m : Int)] Δ P := by
  have fl' := frs_len R.len
  have h4 := R.forty
  have h2 := R.two
  unfold W_repeated z_repeated
  refine ⟨rfl, ?_⟩
  refine seq_cut fun rest hr => ?_
  walk_at "zz"
  refine check_sizes_ok R ?_
  subst hr
  refine seq_cut fun rest hr => ?_
  walk_at "zz"
  rw [isD_len]
  refine check_drags2 h0 hn (fun d hd' => by have := hd d hd'; omega) ?_
  subst hr
  refine seq_cut fun rest hr => ?_
  walk_at "zz"
  refine is_int_ok ?_
  try walk_at "zz"
  refine ⟨fun _ => ⟨fun q => by omega, fun _ => ?_⟩, fun q => by omega⟩
  subst hr
  refine seq_cut fun rest hr => ?_
  walk_at "zz"
  refine check_dirs3 h0 hn w ?_
  subst hr
  refine seq_cut fun rest hr => ?_
  walk_at "zz"
  rw [isD_len]
  refine ⟨fun q => by omega, fun _ => ?_⟩
  subst hr
  refine seq_cut fun rest hr => ?_
  walk_at "zz"
  refine eq_ints ?_
  by_cases m0 : m = 0
  · subst m0
    refine ⟨true, rfl, fun _ => ?_, fun q => nomatch q⟩
    exact p _ _ last_at
  · obtain ⟨j, rfl⟩ : ∃ j, m = j + 1 := ⟨m - 1, by omega⟩
    have e : (((j + 1 : Nat) : Int) == 0) = false := by
      rw [beq_eq_false_iff_ne]
      omega
    rw [e]
    refine ⟨false, rfl, (fun q => nomatch q), fun _ => ?_⟩
    subst hr
    refine seq_cut fun rest hr => ?_
    walk_at "zz"
    refine heights_ok R.len (by omega) (by omega) ?_
    refine frees_ok (by omega) ?_
    refine ⟨_, rfl, ?_⟩
    refine rep_heights3 R hd w h0 hn hS (by omega) fun r hs hl he => ?_
    subst hr
    walk_at "zz"
    refine ⟨_, rfl, ?_⟩
    refine swt_ok hl (by rw [← R.len]; omega) ?_
    rw [he]
    exact p _ _ last_at
theorem lent_rep3 {m : Nat} (R : Rw s l) (h12 : s.length ≤ 12) (hd : DvOk s.length ds) (w : Way2 ds) (h0 : ds ≠ []) (hn : ds.length ≤ 40) (hS : (ds.map Prod.snd).sum.natAbs < 2 ^ 200) (hm : (m : Int) ≤ 10 ^ 30) (hs : Ls Δ d s) (hl : Ls Δ d2 l) (hr : Lx Δ dr (dgD ds))
    (p : P (.cell Δ.length) (Δ ++ [.lst (isD (itrG l ds s m))])) : lentC (W_repeated K C) [d, d2, dr, .int (m : Int)] Δ P := by
  have e : List.map (Z.thaw Δ) [d, d2, dr, .int (m : Int)] = [.lst (isD s), .lst (isD l), .lst (dgD ds), .int (m : Int)] := by
    show [Z.thaw Δ d, Z.thaw Δ d2, Z.thaw Δ dr, _] = _
    rw [hs.thaw, hl.thaw, hr.thaw]
    rfl
  unfold lentC
  rw [e]
  refine ⟨?_, repeated3 R h12 hd w h0 hn hS hm fun c E hE => ?_⟩
  · show (Z.belowL 0 (isD s) && (Z.belowL 0 (isD l) && (Z.belowL 0 (dgD ds) && true))) = true
    rw [below_ints, below_ints, below_dgD]
    rfl
  · exact ⟨_, _, rfl, hE, bare_ints _, p⟩
end
end Bx

namespace Bx
open PySem PySem.Spec PyProof.Rows L2 Z
local macro_rules | `(tactic| walk_at "zz") => `(tactic| simp only [zSeq, zAsg, zRet, zRetN, zIfS, zNext, zDrop, zPar, zPar3, zVar, zC, zOp, zUn, zNeg, zI0, zI, zTest, zAnd, zOr, zNot, zAndV, zOrV, zNotV, zIf, zNil, zCons, zTup, zLst, zLstC, zgName, zgTup, zgCons, zgNil, zgSub, startZ, zCall, zCB, zChain, zIsN, zNotN, zNever,
  zAddA, zMulA, zRepeat, zCat, zIx, seqD, lstD, zMax2, zMin2, zAbs, zLen, zSum, zGcd, zInt, zYes, zBreak, zCont, zMin1, zMax1, zList, zListC, zLcC, zLc, ziR1, ziR2, ziList, ziTup, ziZip, ziEnum, wipeZ, zFor, zSl, zPart, zNoPart, zAppend, zLstR1, zLstR2, zCallBC, zCallBF,
  at0, at1, at2, at3, at4, ix2_3, ix0_3, isNon_int, isNon_non, Bool.not_true, Bool.not_false,
  List.map_cons, List.map_nil, List.length_cons, List.length_nil, List.replicate_succ, List.replicate_zero, List.append_nil, List.nil_append, List.cons_append, List.getElem?_cons_zero, List.getElem?_cons_succ, List.set_cons_zero, List.set_cons_succ,
  Option.some.injEq, D.int.injEq, D.bl.injEq, D.tup.injEq, D.lst.injEq, D.str.injEq, D.cell.injEq, O.lst.injEq, reduceCtorEq, exists_eq_left', exists_eq_left, false_and, and_false, true_and, and_true, exists_false, or_false, false_or, exists_and_left, exists_eq', exists_and_right, List.cons.injEq, and_assoc, dec_not, dec_yes, nd_t, nd_f, t_t, t_f, f_t, f_f, true_implies, false_implies, implies_true, and_self, Nat.reduceAdd, Nat.reduceLeDiff, Nat.reduceSub, Nat.reduceLT])
local macro_rules | `(tactic| walk_at "zy") => `(tactic| try simp only [Option.some.injEq, D.int.injEq, D.bl.injEq, D.tup.injEq, D.lst.injEq, D.str.injEq, D.cell.injEq, O.lst.injEq, reduceCtorEq, exists_eq_left', exists_eq_left, false_and, and_false, true_and, and_true, exists_false, or_false, false_or, exists_and_left, exists_eq', exists_and_right, List.cons.injEq, and_assoc, dec_not, dec_yes, nd_t, nd_f, t_t, t_f, f_t, f_f, true_implies, false_implies, implies_true, and_self])
/-! ### drags twice, scaled, split -/
section
variable {s l f : List Int} {ds : List (Nat × Int)}
theorem itrG_two : ∀ u : Nat, itrG l (ds ++ ds) s u = itrG l ds s (u * 2)
  | 0 => rfl
  | u + 1 => by
    have e : rndG l (ds ++ ds) (itrG l (ds ++ ds) s u) = rndG l ds (rndG l ds (itrG l (ds ++ ds) s u)) := by
      unfold rndG
      rw [List.foldl_append]
    show rndG l (ds ++ ds) (itrG l (ds ++ ds) s u) = _
    rw [e, itrG_two u, show (u + 1) * 2 = u * 2 + 1 + 1 by omega]
    rfl
theorem itrG_fix (h : rndG l ds s = s) : ∀ j, itrG l ds s j = s
  | 0 => rfl
  | j + 1 => by
    show rndG l ds (itrG l ds s j) = s
    rw [itrG_fix h j, h]
/-- all times c -/
def sc (c : Int) (s : List Int) : List Int := s.map fun i => i * c
def scd (c : Int) (ds : List (Nat × Int)) : List (Nat × Int) := ds.map fun d => (d.1, d.2 * c)
variable {c : Int}
theorem sc_len : (sc c s).length = s.length := List.length_map _
theorem sc_get {i : Nat} : (sc c s).getD i 0 = s.getD i 0 * c := by
  unfold sc
  rw [List.getD_eq_getElem?_getD, List.getD_eq_getElem?_getD, List.getElem?_map]
  cases s[i]? with
  | none => simp
  | some x => rfl
theorem sc_sum : ∀ s : List Int, (sc c s).sum = s.sum * c
  | [] => by simp [sc]
  | x :: s => by
    have ih := sc_sum s
    unfold sc at ih ⊢
    rw [List.map_cons, List.sum_cons, ih, List.sum_cons, Int.add_mul]
theorem sc_pre {j : Nat} : pre (sc c f) j = pre f j * c := by
  unfold pre
  rw [← sc_sum]
  unfold sc
  rw [List.map_take]
theorem sc_frs (e : s.length = l.length) : frs (sc c s) (sc c l) = sc c (frs s l) := by
  rw [fl_of (s := frs (sc c s) (sc c l)), fl_of (s := sc c (frs s l)), frs_len (by rw [sc_len, sc_len, e]), sc_len, sc_len, frs_len e]
  refine fl_congr fun i hi => ?_
  rw [frs_get (by rw [sc_len, sc_len, e]) (by rw [sc_len]; exact hi), sc_get, sc_get, sc_get, frs_get e hi, Int.sub_mul]
theorem sc_rw (R : Rw s l) (hc : 0 ≤ c) : Rw (sc c s) (sc c l) := by
  refine ⟨by rw [sc_len, sc_len]; exact R.len, by rw [sc_len]; exact R.two, by rw [sc_len]; exact R.forty, fun i hi => ?_, fun i hi => ?_, fun i hi => ?_⟩
  · obtain ⟨x, hx, rfl⟩ := List.mem_map.mp hi
    exact Int.mul_nonneg (R.l0 x hx) hc
  · obtain ⟨x, hx, rfl⟩ := List.mem_map.mp hi
    exact Int.mul_nonneg (R.s0 x hx) hc
  · rw [sc_len] at hi
    rw [sc_get, sc_get]
    exact Int.mul_le_mul_of_nonneg_right (R.le i hi) hc
theorem lt_sc (hc : 0 < c) {a b : Int} : (a * c < b * c) = (a < b) := propext (Int.mul_lt_mul_right hc)
theorem sc_lim (hc : 0 < c) {v b : Int} : lim (v * c) 0 (b * c) = lim v 0 b * c := by
  unfold lim
  have e : (v * c < 0) = (v < 0) := by
    have := lt_sc hc (a := v) (b := 0)
    rw [Int.zero_mul] at this
    exact this
  simp only [e, lt_sc hc]
  by_cases h1 : v < 0
  · rw [if_pos h1, if_pos h1, Int.zero_mul]
  · rw [if_neg h1, if_neg h1]
    by_cases h2 : b < v
    · rw [if_pos h2, if_pos h2]
    · rw [if_neg h2, if_neg h2]
theorem sc_nwP (hc : 0 < c) {k j : Nat} {x : Int} : nwP (sc c f) k (x * c) j = nwP f k x j * c := by
  unfold nwP
  rw [sc_pre, sc_pre]
  simp only [lt_sc hc]
  have i1 : ∀ (p : Prop) [Decidable p] (a b : Int), (if p then a * c else b * c) = (if p then a else b) * c := fun p _ a b => by
    by_cases h : p
    · rw [if_pos h, if_pos h]
    · rw [if_neg h, if_neg h]
  rw [i1, i1, i1, i1, i1]
theorem sc_drg (e : s.length = l.length) (hc : 0 < c) {k : Nat} {n : Int} : drg (sc c s) (sc c l) k (n * c) = sc c (drg s l k n) := by
  have es : ∀ g : Nat → Int, sc c (fl s.length g) = fl s.length fun i => g i * c := fun g => by unfold sc fl; rw [List.map_map]; rfl
  unfold drg
  rw [es, sc_len]
  refine fl_congr fun i hi => ?_
  rw [sc_frs e, sc_get, sc_sum, sc_pre, ← Int.add_mul, sc_lim hc, sc_nwP hc, sc_nwP hc, Int.sub_mul, Int.add_mul]
theorem sc_rnd (R : Rw s l) (hd : DvOk s.length ds) (hc : 0 < c) : rndG (sc c l) (scd c ds) (sc c s) = sc c (rndG l ds s) := by
  induction ds generalizing s with
  | nil => rfl
  | cons d ds ih =>
    have hk := hd d List.mem_cons_self
    have R' := drg_rw R hk (a := d.2)
    have := ih R' fun e he => by rw [drg_len]; exact hd e (List.mem_cons_of_mem _ he)
    show rndG (sc c l) (scd c ds) (drg (sc c s) (sc c l) d.1 (d.2 * c)) = _
    rw [sc_drg R.len hc, this]
    rfl
theorem sc_itr (R : Rw s l) (hd : DvOk s.length ds) (hc : 0 < c) : ∀ m, itrG (sc c l) (scd c ds) (sc c s) m = sc c (itrG l ds s m)
  | 0 => rfl
  | m + 1 => by
    have ih := sc_itr R hd hc m
    have q := itrG_rw R hd m
    show rndG (sc c l) (scd c ds) (itrG (sc c l) (scd c ds) (sc c s) m) = sc c (rndG l ds (itrG l ds s m))
    rw [ih, sc_rnd q.1 (by rw [q.2.1]; exact hd) hc]
theorem scd_way (w : Way2 ds) (hc : 0 < c) : Way2 (scd c ds) := by
  rcases w with (w | w) | ⟨k, w⟩
  · refine .inl (.inl fun d hd => ?_)
    obtain ⟨e, he, rfl⟩ := List.mem_map.mp hd
    exact Int.mul_nonneg (w e he) (Int.le_of_lt hc)
  · refine .inl (.inr fun d hd => ?_)
    obtain ⟨e, he, rfl⟩ := List.mem_map.mp hd
    exact Int.mul_nonpos_of_nonpos_of_nonneg (w e he) (Int.le_of_lt hc)
  · refine .inr ⟨k, fun d hd => ?_⟩
    obtain ⟨e, he, rfl⟩ := List.mem_map.mp hd
    exact w e he
theorem mir_way2 (w : Way2 ds) (m : Nat) : Way2 (mir m ds) := by
  rcases w with (w | w) | ⟨k, w⟩
  · refine .inl (.inr fun d hd => ?_)
    obtain ⟨e, he, rfl⟩ := List.mem_map.mp hd
    have := w e he
    show -e.2 ≤ 0
    omega
  · refine .inl (.inl fun d hd => ?_)
    obtain ⟨e, he, rfl⟩ := List.mem_map.mp hd
    have := w e he
    show 0 ≤ -e.2
    omega
  · refine .inr ⟨m - 2 - k, fun d hd => ?_⟩
    obtain ⟨e, he, rfl⟩ := List.mem_map.mp hd
    show m - 2 - e.1 = m - 2 - k
    rw [w e he]
theorem way2_app (w : Way2 ds) : Way2 (ds ++ ds) := by
  rcases w with (w | w) | ⟨k, w⟩
  · exact .inl (.inl fun d hd => w d ((List.mem_append.mp hd).elim id id))
  · exact .inl (.inr fun d hd => w d ((List.mem_append.mp hd).elim id id))
  · exact .inr ⟨k, fun d hd => w d ((List.mem_append.mp hd).elim id id)⟩
theorem mir_sum (m : Nat) : ∀ ds : List (Nat × Int), ((mir m ds).map Prod.snd).sum = -(ds.map Prod.snd).sum
  | [] => rfl
  | d :: ds => by
    have ih := mir_sum m ds
    show -d.2 + ((mir m ds).map Prod.snd).sum = -(d.2 + (ds.map Prod.snd).sum)
    rw [ih]
    omega
theorem scd_sum : ∀ ds : List (Nat × Int), ((scd c ds).map Prod.snd).sum = (ds.map Prod.snd).sum * c
  | [] => by simp [scd]
  | d :: ds => by
    have ih := scd_sum ds
    show d.2 * c + ((scd c ds).map Prod.snd).sum = (d.2 + (ds.map Prod.snd).sum) * c
    rw [ih, Int.add_mul]
theorem eqD_ints : ∀ {a b : List Int}, Z.eqD (.lst (isD a)) (.lst (isD b)) = true → a = b := by
  have key : ∀ (a b : List Int), PyData.eqvAll (pds (isD a)) (pds (isD b)) = true → a = b := by
    intro a
    induction a with
    | nil =>
      intro b h
      cases b with
      | nil => rfl
      | cons y b => exact nomatch h
    | cons x a ih =>
      intro b h
      cases b with
      | nil => exact nomatch h
      | cons y b =>
        have h : (PyData.eqv (.int x) (.int y) && PyData.eqvAll (pds (isD a)) (pds (isD b))) = true := h
        rw [Bool.and_eq_true] at h
        have e1 : x = y := by simpa [PyData.eqv] using h.1
        rw [e1, ih b h.2]
  exact fun {a b} h => key a b h
/-- each drag in two of its way -/
inductive Split : List (Nat × Int) → List (Nat × Int) → Prop
  | nil : Split [] []
  | snoc {ps ds : List (Nat × Int)} {k : Nat} {a b : Int} : Split ps ds → (0 ≤ a ∧ 0 ≤ b ∨ a ≤ 0 ∧ b ≤ 0) → Split (ps ++ [(k, a), (k, b)]) (ds ++ [(k, a + b)])
theorem Split.ok {ps ds : List (Nat × Int)} (h : Split ps ds) : ps.length = 2 * ds.length ∧ (ps.map Prod.snd).sum = (ds.map Prod.snd).sum ∧ (∀ p ∈ ps, ∃ d ∈ ds, p.1 = d.1 ∧ (0 ≤ d.2 → 0 ≤ p.2 ∨ d.2 = 0 ∧ p.2 = 0) ∧ (d.2 ≤ 0 → p.2 ≤ 0 ∨ d.2 = 0 ∧ p.2 = 0)) := by
  induction h with
  | nil => exact ⟨rfl, rfl, fun p hp => nomatch hp⟩
  | @snoc ps ds k a b h w ih =>
    obtain ⟨i1, i2, i3⟩ := ih
    refine ⟨by simp; omega, by simp; omega, fun p hp => ?_⟩
    rcases List.mem_append.mp hp with hp | hp
    · obtain ⟨d, hd, q⟩ := i3 p hp
      exact ⟨d, List.mem_append_left _ hd, q⟩
    · refine ⟨(k, a + b), List.mem_append_right _ (List.mem_singleton.mpr rfl), ?_⟩
      simp only [List.mem_cons, List.not_mem_nil, or_false] at hp
      rcases hp with rfl | rfl
      · refine ⟨rfl, fun h => ?_, fun h => ?_⟩ <;> simp only at h ⊢ <;> omega
      · refine ⟨rfl, fun h => ?_, fun h => ?_⟩ <;> simp only at h ⊢ <;> omega
theorem Split.rnd {ps ds : List (Nat × Int)} (h : Split ps ds) (R : Rw s l) (hd : DvOk s.length ds) : rndG l ps s = rndG l ds s := by
  induction h with
  | nil => rfl
  | @snoc ps ds k a b h w ih =>
    have hk : k + 1 < s.length := hd (k, a + b) (List.mem_append_right _ (List.mem_singleton.mpr rfl))
    have hd' : DvOk s.length ds := fun d hd2 => hd d (List.mem_append_left _ hd2)
    have e : rndG l (ps ++ [(k, a), (k, b)]) s = drg (drg (rndG l ps s) l k a) l k b := by
      unfold rndG
      rw [List.foldl_append]
      rfl
    have q := rndG_rw R hd'
    rw [e, rndG_snoc, ih hd', drg_drg q.1 (by rw [q.2.1]; exact hk) w]
theorem Split.itr {ps ds : List (Nat × Int)} (h : Split ps ds) (R : Rw s l) (hd : DvOk s.length ds) : ∀ m, itrG l ps s m = itrG l ds s m
  | 0 => rfl
  | m + 1 => by
    have ih := h.itr R hd m
    have q := itrG_rw R hd m
    show rndG l ps (itrG l ps s m) = rndG l ds (itrG l ds s m)
    rw [ih, h.rnd q.1 (by rw [q.2.1]; exact hd)]
theorem Split.way {ps ds : List (Nat × Int)} (h : Split ps ds) (w : Way2 ds) : Way2 ps := by
  have i3 := h.ok.2.2
  rcases w with (w | w) | ⟨k, w⟩
  · refine .inl (.inl fun p hp => ?_)
    obtain ⟨d, hd, -, q, -⟩ := i3 p hp
    have := q (w d hd)
    omega
  · refine .inl (.inr fun p hp => ?_)
    obtain ⟨d, hd, -, -, q⟩ := i3 p hp
    have := q (w d hd)
    omega
  · refine .inr ⟨k, fun p hp => ?_⟩
    obtain ⟨d, hd, q, -⟩ := i3 p hp
    rw [q, w d hd]
end
end Bx

namespace Bx
open PySem PySem.Spec PyProof.Rows L2 Z
local macro_rules | `(tactic| walk_at "zz") => `(tactic| simp only [zSeq, zAsg, zRet, zRetN, zIfS, zNext, zDrop, zPar, zPar3, zVar, zC, zOp, zUn, zNeg, zI0, zI, zTest, zAnd, zOr, zNot, zAndV, zOrV, zNotV, zIf, zNil, zCons, zTup, zLst, zLstC, zgName, zgTup, zgCons, zgNil, zgSub, startZ, zCall, zCB, zChain, zIsN, zNotN, zNever,
  zAddA, zMulA, zRepeat, zCat, zIx, seqD, lstD, zMax2, zMin2, zAbs, zLen, zSum, zGcd, zInt, zYes, zBreak, zCont, zMin1, zMax1, zList, zListC, zLcC, zLc, ziR1, ziR2, ziList, ziTup, ziZip, ziEnum, wipeZ, zFor, zSl, zPart, zNoPart, zAppend, zLstR1, zLstR2, zCallBC, zCallBF,
  at0, at1, at2, at3, at4, ix2_3, ix0_3, isNon_int, isNon_non, Bool.not_true, Bool.not_false,
  List.map_cons, List.map_nil, List.length_cons, List.length_nil, List.replicate_succ, List.replicate_zero, List.append_nil, List.nil_append, List.cons_append, List.getElem?_cons_zero, List.getElem?_cons_succ, List.set_cons_zero, List.set_cons_succ,
  Option.some.injEq, D.int.injEq, D.bl.injEq, D.tup.injEq, D.lst.injEq, D.str.injEq, D.cell.injEq, O.lst.injEq, reduceCtorEq, exists_eq_left', exists_eq_left, false_and, and_false, true_and, and_true, exists_false, or_false, false_or, exists_and_left, exists_eq', exists_and_right, List.cons.injEq, and_assoc, dec_not, dec_yes, nd_t, nd_f, t_t, t_f, f_t, f_f, true_implies, false_implies, implies_true, and_self, Nat.reduceAdd, Nat.reduceLeDiff, Nat.reduceSub, Nat.reduceLT])
local macro_rules | `(tactic| walk_at "zy") => `(tactic| try simp only [Option.some.injEq, D.int.injEq, D.bl.injEq, D.tup.injEq, D.lst.injEq, D.str.injEq, D.cell.injEq, O.lst.injEq, reduceCtorEq, exists_eq_left', exists_eq_left, false_and, and_false, true_and, and_true, exists_false, or_false, false_or, exists_and_left, exists_eq', exists_and_right, List.cons.injEq, and_assoc, dec_not, dec_yes, nd_t, nd_f, t_t, t_f, f_t, f_f, true_implies, false_implies, implies_true, and_self])
section
variable {K : PySem.W.Frag} {C : CI} {Δ Δ' E G : Store} {P : D → Store → Prop} {d d2 dr : D} {s l f ns : List Int} {xs : List D} {n : Nat} {c : Int} {ds : List (Nat × Int)}
theorem off_snoc {x : O} (o : Off n (E ++ [x]) G) (hn : n < E.length) : ∃ G', G = G' ++ [x] ∧ Off n E G' := by
  have hl := o.len
  rw [List.length_append, List.length_singleton] at hl
  refine ⟨G.take E.length, ?_, ?_⟩
  · apply List.ext_getElem?
    intro i
    by_cases h : i < E.length
    · rw [List.getElem?_append_left (by rw [List.length_take]; omega), List.getElem?_take, if_pos h]
    · rw [List.getElem?_append_right (by rw [List.length_take]; omega), List.length_take, Nat.min_eq_left (by omega)]
      by_cases h2 : i = E.length
      · subst h2
        rw [o.at_ _ (by omega), Nat.sub_self]
        exact last_at
      · rw [List.getElem?_eq_none (by omega), List.getElem?_eq_none (by simp; omega)]
  · refine ⟨by rw [List.length_take]; omega, fun m hm => ?_⟩
    rw [List.getElem?_take]
    by_cases h : m < E.length
    · rw [if_pos h, o.at_ m hm, List.getElem?_append_left h]
    · rw [if_neg h, List.getElem?_eq_none (by omega)]
theorem fnt_less {r : Store} (h : Fnt (E ++ r) n c) (hn : n < E.length) : Fnt E n c := by
  obtain ⟨x, y, z, e, h1⟩ := h
  rw [List.getElem?_append_left hn] at e
  exact ⟨x, y, z, e, h1⟩
theorem below_dgD2 (m : Nat) : ∀ ds : List (Nat × Int), Z.belowL m (dgD ds) = true
  | [] => rfl
  | d :: ds => by
    show (true && Z.belowL m (dgD ds)) = true
    rw [below_dgD2 m ds]
    rfl
theorem dgD_snoc {x : Nat × Int} : dgD (ds ++ [x]) = dgD ds ++ [.tup [.int (x.1 : Int), .int x.2]] := by unfold dgD; rw [List.map_append]; rfl
theorem drawn_ok {many wide : Int} (hb : Fnt Δ n c) (hc : c ≤ 10 ^ 17) (m2 : 2 ≤ many) (m40 : many ≤ 40) (w1 : 1 ≤ wide) (w2 : wide ≤ 10 ^ 30)
    (h : ∀ ds E, ds ≠ [] → ds.length ≤ 5 → Way2 ds → (∀ d ∈ ds, (d.1 : Int) + 1 < many ∧ d.2.natAbs ≤ 10 ^ 30) → Off n Δ E → Fnt E n (c + 100) → P (.lst (dgD ds)) E) : frzM (W__law_drawn K C) [.cell n, .int many, .int wide] Δ P := by
  unfold frzM W__law_drawn z__law_drawn
  have nl := hb.lt
  refine ⟨rfl, ?_⟩
  refine seq_cut fun rest hr => ?_
  walk_at "zz"
  refine sip_ok (hb.app _) (by omega) (by omega) (sm (by omega) (by omega)) fun a1 E1 a10 a11 f1 o1 => ?_
  obtain ⟨G1, rfl, q1⟩ := off_snoc o1 nl
  have n1 : n < G1.length := by rw [q1.len]; exact nl
  try walk_at "zz"
  refine sip_ok f1 (by omega) (by decide) (sm (by decide) (by decide)) fun a2 E2 a20 a21 f2 o2 => ?_
  obtain ⟨G2, rfl, q2⟩ := off_snoc o2 n1
  have n2 : n < G2.length := by rw [q2.len]; exact n1
  obtain ⟨one, rfl⟩ : ∃ a : Nat, a1 = (a : Int) := ⟨a1.toNat, by omega⟩
  try walk_at "zz"
  have eL : Δ.length = G2.length := by rw [q2.len, q1.len]
  rw [eL]
  subst hr
  refine seq_cut fun rest hr => ?_
  refine for_cut fun body hB => ?_
  walk_at "zz"
  refine sip_ok f2 (by omega) (by decide) (sm (by decide) (by decide)) fun a3 E3 a30 a31 f3 o3 => ?_
  obtain ⟨G3, rfl, q3⟩ := off_snoc o3 n2
  have n3 : n < G3.length := by rw [q3.len]; exact n2
  have e3 : G2.length = G3.length := q3.len.symm
  rw [e3]
  try walk_at "zz"
  refine ⟨by omega, by omega, ?_⟩
  refine loop_inv (fun i Γ F => ∃ (F' : Store) (ds : List (Nat × Int)) (u6 u7 u8 : Option D), F = F' ++ [.lst (dgD ds)] ∧ F'.length = G3.length ∧ Off n Δ F' ∧ Fnt F' n (c + 10 + 10 * i) ∧ ds.length = i ∧ (a2 = 0 → ∀ d ∈ ds, d.1 = one) ∧ (a2 = 1 → ∀ d ∈ ds, 0 ≤ d.2) ∧ (a2 = 2 → ∀ d ∈ ds, d.2 ≤ 0) ∧ (∀ d ∈ ds, (d.1 : Int) + 1 < many ∧ d.2.natAbs ≤ 10 ^ 30) ∧
    Γ = [some (.cell n), some (.int many), some (.int wide), some (.cell G3.length), some (.int (one : Int)), some (.int a2), u6, u7, u8]) _ 0 _ _ ⟨G3, [], none, none, none, rfl, rfl, (q1.trans q2).trans q3, (fnt_less f3 n3).mono (by omega), rfl, (fun _ _ q => nomatch q), (fun _ _ q => nomatch q), (fun _ _ q => nomatch q), (fun _ q => nomatch q), rfl⟩ ?_ ?_
  · rintro i x Γ F Ze hx ⟨F', ds, u6, u7, u8, rfl, hl, ho, hf, hi, p0, p1, p2, p3, rfl⟩ hnx _ _ _
    rw [Nat.zero_add] at *
    have il : i < 5 := by
      have := (List.getElem?_eq_some_iff.mp hx).1
      rw [rangeD_len] at this
      omega
    have nF : n < F'.length := by omega
    subst hB
    simp only [zgName, List.set_cons_succ, List.set_cons_zero]
    refine seq_cut fun rest2 hr2 => ?_
    walk_at "zz"
    refine sip_ok (hf.app _) (by omega) (by decide) (sm (by decide) (by decide)) fun b1 H1 b10 b11 g1 o1 => ?_
    obtain ⟨J1, rfl, r1⟩ := off_snoc o1 nF
    have nJ1 : n < J1.length := by rw [r1.len]; exact nF
    obtain ⟨d', hd, e⟩ := atM (l := [D.int 9, D.int wide]) b10 b11
    obtain ⟨far, rfl, w3, w4⟩ : ∃ far : Int, d' = .int far ∧ 1 ≤ far ∧ far ≤ 10 ^ 30 := by
      simp only [List.mem_cons, List.not_mem_nil, or_false] at hd
      rcases hd with rfl | rfl
      · exact ⟨_, rfl, by decide, by decide⟩
      · exact ⟨_, rfl, w1, w2⟩
    try walk_at "zz"
    refine ⟨_, e, ?_⟩
    refine number_ok g1 (by omega) w3 w4 fun y H2 y0 g2 o2 => ?_
    obtain ⟨J2, rfl, r2⟩ := off_snoc o2 nJ1
    have nJ2 : n < J2.length := by rw [r2.len]; exact nJ1
    subst hr2
    refine seq_cut fun rest2 hr2 => ?_
    -- behind the spot
    have after : ∀ (sp : Nat) (J : Store), J.length = J2.length → Off n J2 J → Fnt J n (c + 10 + 10 * i + 9) → (sp : Int) + 1 < many → (a2 = 0 → sp = one) → rest2 [some (.cell n), some (.int many), some (.int wide), some (.cell G3.length), some (.int (one : Int)), some (.int a2), some x, some (.int y), some (.int (sp : Int))] (J ++ [.lst (dgD ds)]) := by
      intro sp J hJ oJ fJ s1 s2
      have eJ : G3.length = J.length := by rw [hJ, r2.len, r1.len, hl]
      subst hr2
      rw [eJ]
      walk_at "zz"
      obtain ⟨v, ev, v1, v2, v3⟩ : ∃ v : Int, atI [D.int y, D.int (if y < 0 then -y else y), D.int (0 - if y < 0 then -y else y)] a2 = some (.int v) ∧ v.natAbs ≤ 10 ^ 30 ∧ (a2 = 1 → 0 ≤ v) ∧ (a2 = 2 → v ≤ 0) := by
        have : a2 = 0 ∨ a2 = 1 ∨ a2 = 2 := by omega
        rcases this with q | q | q
        · rw [q]; exact ⟨y, rfl, y0, fun h => absurd h (by decide), fun h => absurd h (by decide)⟩
        · rw [q]; exact ⟨_, rfl, by split <;> omega, fun _ => by split <;> omega, fun h => absurd h (by decide)⟩
        · rw [q]; exact ⟨_, rfl, by split <;> omega, fun h => absurd h (by decide), fun _ => by split <;> omega⟩
      refine ⟨⟨_, last_at⟩, _, ev, _, last_at, by rw [dgD_len]; omega, ?_⟩
      rw [set_last]
      have mem : ∀ {Q : Nat × Int → Prop}, (∀ d ∈ ds, Q d) → Q (sp, v) → ∀ d ∈ ds ++ [(sp, v)], Q d := fun h1 h2 d hd => by
        rcases List.mem_append.mp hd with hd | hd
        · exact h1 d hd
        · rw [List.mem_singleton.mp hd]; exact h2
      exact hnx _ _ ⟨J, ds ++ [(sp, v)], _, _, _, by rw [dgD_snoc], eJ.symm, ho.trans (r1.trans (r2.trans oJ)), fJ.mono (by omega), by simp [hi], fun q => mem (p0 q) (s2 q), fun q => mem (p1 q) (v2 q), fun q => mem (p2 q) (v3 q), mem p3 ⟨s1, v1⟩, by rw [eJ]⟩
    walk_at "zz"
    refine eq_ints ⟨_, rfl, fun hk => ?_, fun hk => ?_⟩
    · exact after one J2 rfl (Off.refl _ _) ((fnt_less g2 nJ2).mono (by omega)) (by omega) fun _ => rfl
    · refine sip_ok g2 (by omega) (by omega) (sm (by omega) (by omega)) fun b3 H3 b30 b31 g3 o3 => ?_
      obtain ⟨J3, rfl, r3⟩ := off_snoc o3 nJ2
      obtain ⟨sp, rfl⟩ : ∃ a : Nat, b3 = (a : Int) := ⟨b3.toNat, by omega⟩
      exact after sp J3 r3.len r3 ((fnt_less g3 (by rw [r3.len]; exact nJ2)).mono (by omega)) (by omega) fun q => by
        rw [q] at hk
        exact nomatch hk
  · rintro Γ F ⟨F', ds, u6, u7, u8, rfl, hl, ho, hf, hi, p0, p1, p2, p3, rfl⟩
    rw [Nat.zero_add, rangeD_len] at *
    show rest _ _
    subst hr
    walk_at "zz"
    rw [← hl]
    refine ⟨_, F', rfl, rfl, ho.len, fun m o hm => ?_, below_dgD2 _ _, h ds F' (fun q => by rw [q] at hi; simp at hi; omega) (by omega) ?_ p3 ho (hf.mono (by omega))⟩
    · by_cases e : m = n
      · subst e
        obtain ⟨x, y, z, e, _⟩ := hf
        rw [e] at hm
        cases hm
        exact .inr rfl
      · rw [ho.at_ m e] at hm
        exact .inl hm
    · have : a2 = 0 ∨ a2 = 1 ∨ a2 = 2 := by omega
      rcases this with q | q | q
      · exact .inr ⟨one, p0 q⟩
      · exact .inl (.inl (p1 q))
      · exact .inl (.inr (p2 q))
end
end Bx

namespace Bx
open PySem PySem.Spec PyProof.Rows L2 Z
local macro_rules | `(tactic| walk_at "zz") => `(tactic| simp only [zSeq, zAsg, zRet, zRetN, zIfS, zNext, zDrop, zPar, zPar3, zVar, zC, zOp, zUn, zNeg, zI0, zI, zTest, zAnd, zOr, zNot, zAndV, zOrV, zNotV, zIf, zNil, zCons, zTup, zLst, zLstC, zgName, zgTup, zgCons, zgNil, zgSub, startZ, zCall, zCB, zChain, zIsN, zNotN, zNever,
  zAddA, zMulA, zRepeat, zCat, zIx, seqD, lstD, zMax2, zMin2, zAbs, zLen, zSum, zGcd, zInt, zYes, zBreak, zCont, zMin1, zMax1, zList, zListC, zLcC, zLc, ziR1, ziR2, ziList, ziTup, ziZip, ziEnum, wipeZ, zFor, zSl, zPart, zNoPart, zAppend, zLstR1, zLstR2, zCallBC, zCallBF,
  at0, at1, at2, at3, at4, ix2_3, ix0_3, isNon_int, isNon_non, Bool.not_true, Bool.not_false,
  List.map_cons, List.map_nil, List.length_cons, List.length_nil, List.replicate_succ, List.replicate_zero, List.append_nil, List.nil_append, List.cons_append, List.getElem?_cons_zero, List.getElem?_cons_succ, List.set_cons_zero, List.set_cons_succ,
  Option.some.injEq, D.int.injEq, D.bl.injEq, D.tup.injEq, D.lst.injEq, D.str.injEq, D.cell.injEq, O.lst.injEq, reduceCtorEq, exists_eq_left', exists_eq_left, false_and, and_false, true_and, and_true, exists_false, or_false, false_or, exists_and_left, exists_eq', exists_and_right, List.cons.injEq, and_assoc, dec_not, dec_yes, nd_t, nd_f, t_t, t_f, f_t, f_f, true_implies, false_implies, implies_true, and_self, Nat.reduceAdd, Nat.reduceLeDiff, Nat.reduceSub, Nat.reduceLT])
local macro_rules | `(tactic| walk_at "zy") => `(tactic| try simp only [Option.some.injEq, D.int.injEq, D.bl.injEq, D.tup.injEq, D.lst.injEq, D.str.injEq, D.cell.injEq, O.lst.injEq, reduceCtorEq, exists_eq_left', exists_eq_left, false_and, and_false, true_and, and_true, exists_false, or_false, false_or, exists_and_left, exists_eq', exists_and_right, List.cons.injEq, and_assoc, dec_not, dec_yes, nd_t, nd_f, t_t, t_f, f_t, f_f, true_implies, false_implies, implies_true, and_self])
/-- what holds while the law looks at a row -/
structure Ew (n : Nat) (c : Int) (Δ E : Store) (d d2 : D) (s l : List Int) : Prop where
  ex : Ex n Δ E
  f : Fnt E n c
  s : Ls E d s
  l : Ls E d2 l
/-- a row and its drags -/
structure Rd (s l : List Int) (ds : List (Nat × Int)) : Prop where
  R : Rw s l
  h12 : s.length ≤ 12
  hd : DvOk s.length ds
  w : Way2 ds
  h0 : ds ≠ []
  h5 : ds.length ≤ 5
  bd : ∀ d ∈ ds, d.2.natAbs ≤ 10 ^ 30
  bs : ∀ i ∈ s, i ≤ 10 ^ 31
  bl : ∀ i ∈ l, i ≤ 10 ^ 31
section
variable {K : PySem.W.Frag} {C : CI} {Δ Δ' E : Store} {P : D → Store → Prop} {d d2 dr : D} {s l f ns : List Int} {ds : List (Nat × Int)} {xs : List D} {n : Nat} {c : Int} {m : Nat}
theorem Ew.app (v : Ew n c Δ E d d2 s l) (r : Store) : Ew n c Δ (E ++ r) d d2 s l := ⟨v.ex.trans (Ex.app _ _ _), v.f.app _, v.s.app _, v.l.app _⟩
theorem Ew.off {F : Store} {c' : Int} (v : Ew n c Δ E d d2 s l) (o : Off n E F) (hf : Fnt F n c') (h1 : d ≠ .cell n) (h2 : d2 ≠ .cell n) : Ew n c' Δ F d d2 s l := ⟨v.ex.trans (Ex.off o), hf, v.s.off o h1, v.l.off o h2⟩
theorem Ew.mono {c' : Int} (v : Ew n c Δ E d d2 s l) (h : c ≤ c') : Ew n c' Δ E d d2 s l := ⟨v.ex, v.f.mono h, v.s, v.l⟩
theorem sum_bd {B : Nat} : ∀ {ns : List Int}, (∀ x ∈ ns, x.natAbs ≤ B) → ns.sum.natAbs ≤ ns.length * B
  | [], _ => Nat.zero_le _
  | x :: ns, h => by
    have h1 := h x List.mem_cons_self
    have h2 := sum_bd fun y hy => h y (List.mem_cons_of_mem _ hy)
    rw [List.sum_cons, List.length_cons, Nat.succ_mul]
    omega
theorem Rd.sum (H : Rd s l ds) : (ds.map Prod.snd).sum.natAbs ≤ 5 * 10 ^ 30 := by
  have sb := sum_bd (ns := ds.map Prod.snd) (B := 10 ^ 30) fun x hx => by
    obtain ⟨d, hd, rfl⟩ := List.mem_map.mp hx
    exact H.bd d hd
  refine Nat.le_trans sb (Nat.mul_le_mul_right _ ?_)
  rw [List.length_map]
  exact H.h5
theorem Rd.rep (H : Rd s l ds) (hm : (m : Int) ≤ 10 ^ 30) (hs : Ls Δ d s) (hl : Ls Δ d2 l) (p : P (.cell Δ.length) (Δ ++ [.lst (isD (itrG l ds s m))])) : lentC (W_repeated K C) [d, d2, .lst (dgD ds), .int (m : Int)] Δ P :=
  lent_rep3 H.R H.h12 H.hd H.w H.h0 (by have := H.h5; omega) (Nat.lt_of_le_of_lt H.sum (by decide)) hm hs hl (.inl rfl) p
theorem natAbs_bd {i : Int} {N : Nat} (h0 : 0 ≤ i) (h1 : i ≤ N) : i.natAbs ≤ N := by omega
theorem sums_ok (H : Rd s l ds) (hm : (m : Int) ≤ 10 ^ 30) (n1 : d ≠ .cell n) (n2 : d2 ≠ .cell n) (hc : c ≤ 10 ^ 15) (v0 : Ew n c Δ Δ d d2 s l) (p : ∀ E, Ew n (c + 10) Δ E d d2 s l → P (.bl true) E) : W__law_sums_right K C [.cell n, d, d2, .lst (dgD ds), .int (m : Int)] Δ P := by
  unfold W__law_sums_right z__law_sums_right
  refine ⟨rfl, ?_⟩
  refine seq_cut fun rest hr => ?_
  walk_at "zz"
  subst hr
  refine seq_cut fun rest hr => ?_
  refine for_cut fun body hB => ?_
  walk_at "zz"
  refine loop_inv (fun i Γ E => ∃ (ps : List (Nat × Int)) (u6 u7 u8 : Option D), Split ps (ds.take i) ∧ Ew n (c + i) Δ E d d2 s l ∧ Γ = [some (.cell n), some d, some d2, some (.lst (dgD ds)), some (.int (m : Int)), some (.lst (dgD ps)), u6, u7, u8]) _ 0 _ _ ⟨[], none, none, none, .nil, v0.mono (by omega), rfl⟩ ?_ ?_
  · rintro i x Γ E Ze hx ⟨ps, u6, u7, u8, sp, v, rfl⟩ hnx _ _ _
    rw [Nat.zero_add] at *
    have il : i < ds.length := by
      have := (List.getElem?_eq_some_iff.mp hx).1
      rw [dgD_len] at this
      exact this
    have i5 := H.h5
    rw [dgD_get il] at hx
    cases hx
    have hb := H.bd _ (List.getElem_mem il)
    have e : ds.take (i + 1) = ds.take i ++ [(ds[i].1, ds[i].2)] := by rw [List.take_add_one, List.getElem?_eq_getElem il]; rfl
    rw [e] at hnx
    generalize ds[i].1 = k at *
    generalize ds[i].2 = z at *
    have pl : ps.length ≤ 10 := by have := sp.ok.1; rw [List.length_take] at this; omega
    subst hB
    refine ⟨_, rfl, rfl, _, _, rfl, _, _, rfl, rfl, ?_⟩
    simp only [List.set_cons_succ, List.set_cons_zero]
    refine seq_cut fun rest2 hr2 => ?_
    walk_at "zz"
    refine sip_ok v.f (by omega) (by split <;> omega) (sm (by split <;> omega) (by split <;> omega)) fun a F a0 a1 f1 o1 => ?_
    have v1 := v.off o1 f1 n1 n2
    have fin : ∀ q : Int, q = (if z > 0 then a else -a) → rest2 [some (.cell n), some d, some d2, some (.lst (dgD ds)), some (.int (m : Int)), some (.lst (dgD ps)), some (.int (k : Int)), some (.int z), some (.int q)] F := by
      intro q hq
      subst hr2
      walk_at "zz"
      refine ⟨by rw [dgD_len]; omega, ?_⟩
      have hps : dgD ps ++ [.tup [.int (k : Int), .int q], .tup [.int (k : Int), .int (z - q)]] = dgD (ps ++ [(k, q), (k, z - q)]) := by unfold dgD; rw [List.map_append]; rfl
      rw [hps]
      refine hnx _ _ ⟨ps ++ [(k, q), (k, z - q)], _, _, _, ?_, v1.mono (by omega), rfl⟩
      have hz : z = q + (z - q) := by omega
      conv => arg 2; rw [hz]
      refine .snoc sp ?_
      rw [hq]
      split at a1 <;> split <;> omega
    refine ⟨fun hz => ⟨_, rfl, .r (by decide) (by decide), fin _ (by rw [if_pos hz]; omega)⟩, fun hz => ⟨_, rfl, .r (by decide) (by decide), fin _ (by rw [if_neg hz]; omega)⟩⟩
  · rintro Γ E ⟨ps, u6, u7, u8, sp, v, rfl⟩
    rw [Nat.zero_add, dgD_len, List.take_length] at *
    show rest _ _
    subst hr
    have ok := sp.ok
    have h5 := H.h5
    have hps : ps ≠ [] := fun q => by
      rw [q] at ok
      have := List.length_pos_iff.mpr H.h0
      have := ok.1
      simp at this; omega
    have hdp : DvOk s.length ps := fun q hq => by
      obtain ⟨d, hd, e, _⟩ := ok.2.2 q hq
      rw [e]
      exact H.hd d hd
    walk_at "zz"
    refine lent_rep3 (ds := ps) H.R H.h12 hdp (sp.way H.w) hps (by omega) (by rw [ok.2.1]; exact Nat.lt_of_le_of_lt H.sum (by decide)) hm v.s v.l (.inl rfl) ?_
    have v2 := v.app [.lst (isD (itrG l ps s m))]
    refine H.rep hm v2.s v2.l ?_
    rw [sp.itr H.R H.hd]
    refine eq_sameD (z := .lst (isD (itrG l ds s m))) (Ls.rdk ((Ls.last).app _)) Ls.last.rdk (shp_ints _) ?_
    have v3 := (v.app [.lst (isD (itrG l ds s m))]).app [.lst (isD (itrG l ds s m))]
    exact p _ (v3.mono (by omega))
end
end Bx

namespace Bx
open PySem PySem.Spec PyProof.Rows L2 Z
local macro_rules | `(tactic| walk_at "zz") => `(tactic| simp only [zSeq, zAsg, zRet, zRetN, zIfS, zNext, zDrop, zPar, zPar3, zVar, zC, zOp, zUn, zNeg, zI0, zI, zTest, zAnd, zOr, zNot, zAndV, zOrV, zNotV, zIf, zNil, zCons, zTup, zLst, zLstC, zgName, zgTup, zgCons, zgNil, zgSub, startZ, zCall, zCB, zChain, zIsN, zNotN, zNever,
  zAddA, zMulA, zRepeat, zCat, zIx, seqD, lstD, zMax2, zMin2, zAbs, zLen, zSum, zGcd, zInt, zYes, zBreak, zCont, zMin1, zMax1, zList, zListC, zLcC, zLc, ziR1, ziR2, ziList, ziTup, ziZip, ziEnum, wipeZ, zFor, zSl, zPart, zNoPart, zAppend, zLstR1, zLstR2, zCallBC, zCallBF,
  at0, at1, at2, at3, at4, ix2_3, ix0_3, isNon_int, isNon_non, Bool.not_true, Bool.not_false,
  List.map_cons, List.map_nil, List.length_cons, List.length_nil, List.replicate_succ, List.replicate_zero, List.append_nil, List.nil_append, List.cons_append, List.getElem?_cons_zero, List.getElem?_cons_succ, List.set_cons_zero, List.set_cons_succ,
  Option.some.injEq, D.int.injEq, D.bl.injEq, D.tup.injEq, D.lst.injEq, D.str.injEq, D.cell.injEq, O.lst.injEq, reduceCtorEq, exists_eq_left', exists_eq_left, false_and, and_false, true_and, and_true, exists_false, or_false, false_or, exists_and_left, exists_eq', exists_and_right, List.cons.injEq, and_assoc, dec_not, dec_yes, nd_t, nd_f, t_t, t_f, f_t, f_f, true_implies, false_implies, implies_true, and_self, Nat.reduceAdd, Nat.reduceLeDiff, Nat.reduceSub, Nat.reduceLT])
local macro_rules | `(tactic| walk_at "zy") => `(tactic| try simp only [Option.some.injEq, D.int.injEq, D.bl.injEq, D.tup.injEq, D.lst.injEq, D.str.injEq, D.cell.injEq, O.lst.injEq, reduceCtorEq, exists_eq_left', exists_eq_left, false_and, and_false, true_and, and_true, exists_false, or_false, false_or, exists_and_left, exists_eq', exists_and_right, List.cons.injEq, and_assoc, dec_not, dec_yes, nd_t, nd_f, t_t, t_f, f_t, f_f, true_implies, false_implies, implies_true, and_self])
section
variable {K : PySem.W.Frag} {C : CI} {Δ Δ' E : Store} {P : D → Store → Prop} {d d2 dr : D} {s l f ns : List Int} {ds : List (Nat × Int)} {xs : List D} {n : Nat} {c : Int} {m : Nat}
theorem Ls.lent (h : Ls Δ d s) : lent1 Δ (some d) = some (.lst (isD s)) := by
  show (if Z.below 0 (Z.thaw Δ d) = true then some (Z.thaw Δ d) else none) = _
  rw [h.thaw]
  exact if_pos (below_ints s)
theorem lent_int {i : Int} : lent1 Δ (some (.int i)) = some (.int i) := rfl
theorem mem_sum : ∀ {s : List Int}, (∀ i ∈ s, 0 ≤ i) → 0 ≤ s.sum ∧ ∀ i ∈ s, i ≤ s.sum
  | [], _ => ⟨Int.le_refl _, fun _ h => nomatch h⟩
  | x :: s, h => by
    obtain ⟨h1, h2⟩ := mem_sum fun i hi => h i (List.mem_cons_of_mem _ hi)
    have h0 := h x List.mem_cons_self
    rw [List.sum_cons]
    refine ⟨by omega, fun i hi => ?_⟩
    rcases List.mem_cons.mp hi with rfl | hi
    · omega
    · have := h2 i hi; omega
theorem Rd.sums (H : Rd s l ds) : s.sum ≤ 12 * 10 ^ 31 := by
  have sb := sum_bd (ns := s) (B := 10 ^ 31) fun x hx => by
    have := H.bs x hx
    have := H.R.s0 x hx
    omega
  have h12 := H.h12
  have : s.length * 10 ^ 31 ≤ 12 * 10 ^ 31 := Nat.mul_le_mul_right _ h12
  omega
/-- what is found lies within the sum -/
theorem Rd.told (H : Rd s l ds) (m : Nat) : ∀ i ∈ itrG l ds s m, i.natAbs < 2 ^ 200 := fun i hi => by
  have q := itrG_rw H.R H.hd m
  have a := mem_sum q.1.s0
  have b := a.2 i hi
  have z := q.1.s0 i hi
  rw [q.2.2] at b
  have := H.sums
  exact Nat.lt_of_le_of_lt (show i.natAbs ≤ 12 * 10 ^ 31 by omega) (by decide)
theorem rv_isD (s : List Int) : (isD s).reverse = isD s.reverse := by unfold isD; rw [List.map_reverse]
theorem comp_no {zg : ZG} {ze : ZE} {zt : ZT} {Γ0 : Z.Env} {P : D → Store → Prop} {Δ : Store} {α : Type} {g : α → D} : ∀ (xs : List α) (acc : List D),
    (∀ x ∈ xs, ∀ Q : Z.Env → Bool → Store → Prop, (∀ Γ2, Q Γ2 false Δ) → zg (g x) Γ0 Δ fun Γ2 Δ2 => zt Γ2 Δ2 (Q Γ2)) → P (.lst acc) Δ → compZ zg zt ze Γ0 P (xs.map g) acc Δ
  | [], _, _, h => h
  | x :: xs, acc, hs, h => by
    have ih := comp_no (ze := ze) (P := P) xs acc (fun y hy => hs y (List.mem_cons_of_mem _ hy)) h
    show zg (g x) Γ0 Δ fun Γ2 Δ2 => zt Γ2 Δ2 fun b Δ3 => (b = true → ze Γ2 Δ3 fun y Δ4 => acc.length < 100000 ∧ compZ zg zt ze Γ0 P (xs.map g) (acc ++ [y]) Δ4) ∧ (b = false → compZ zg zt ze Γ0 P (xs.map g) acc Δ3)
    exact hs x List.mem_cons_self (fun Γ2 b Δ3 => (b = true → ze Γ2 Δ3 fun y Δ4 => acc.length < 100000 ∧ compZ zg zt ze Γ0 P (xs.map g) (acc ++ [y]) Δ4) ∧ (b = false → compZ zg zt ze Γ0 P (xs.map g) acc Δ3)) fun Γ2 => ⟨(fun q => nomatch q), fun _ => ih⟩
theorem comp_dg {zg : ZG} {ze : ZE} {Γ0 : Z.Env} {P : D → Store → Prop} {Δ : Store} {f : Nat × Int → D} (hl : ds.length ≤ 100000) (hs : ∀ e ∈ ds, ∀ Q : D → Store → Prop, Q (f e) Δ → zg (.tup [.int (e.1 : Int), .int e.2]) Γ0 Δ fun Γ2 Δ2 => ze Γ2 Δ2 Q)
    (h : P (.lst (ds.map f)) Δ) : compZ zg zYes ze Γ0 P (dgD ds) [] Δ := by
  unfold dgD
  exact comp_map ds [] (by simpa using hl) hs (by simpa using h)
theorem comp_is {zg : ZG} {ze : ZE} {Γ0 : Z.Env} {P : D → Store → Prop} {Δ : Store} {f : Int → D} (hl : s.length ≤ 100000) (hs : ∀ e ∈ s, ∀ Q : D → Store → Prop, Q (f e) Δ → zg (.int e) Γ0 Δ fun Γ2 Δ2 => ze Γ2 Δ2 Q)
    (h : P (.lst (s.map f)) Δ) : compZ zg zYes ze Γ0 P (isD s) [] Δ := by
  unfold isD
  exact comp_map s [] (by simpa using hl) hs (by simpa using h)
theorem sc_isD {k : Int} (s : List Int) : s.map (fun i => D.int (i * k)) = isD (sc k s) := by unfold isD sc; rw [List.map_map]; rfl
theorem zip_le (R : Rw s l) {q : Int × Int} (h : q ∈ s.zip l) : q.2 ≤ q.1 := by
  obtain ⟨i, hi, e⟩ := List.getElem_of_mem h
  rw [List.length_zip] at hi
  have h1 : i < s.length := by omega
  have h2 : i < l.length := by omega
  have := R.le i h1
  rw [List.getD_eq_getElem?_getD, List.getD_eq_getElem?_getD, List.getElem?_eq_getElem h1, List.getElem?_eq_getElem h2] at this
  rw [← e, List.getElem_zip]
  exact this
theorem lent_drag {k : Nat} {num : Int} (R : Rw s l) (hk : k + 1 < s.length) (hs : Ls Δ d s) (hl : Ls Δ d2 l) (p : P (.cell Δ.length) (Δ ++ [.lst (isD (drg s l k num))])) : lentC (W_dragged K C) [d, d2, .int (k : Int), .int num] Δ P := by
  have e : List.map (Z.thaw Δ) [d, d2, .int (k : Int), .int num] = [.lst (isD s), .lst (isD l), .int (k : Int), .int num] := by
    show [Z.thaw Δ d, Z.thaw Δ d2, _, _] = _
    rw [hs.thaw, hl.thaw]
    rfl
  unfold lentC
  rw [e]
  refine ⟨?_, dragged_ok R hk ?_⟩
  · show (Z.belowL 0 (isD s) && (Z.belowL 0 (isD l) && true)) = true
    rw [below_ints, below_ints]
    rfl
  · exact ⟨_, _, rfl, last_at, bare_ints _, p⟩
theorem right_ok (H : Rd s l ds) (hm : (m : Int) < 10 ^ 30) (n1 : d ≠ .cell n) (n2 : d2 ≠ .cell n) (hc : c ≤ 10 ^ 15) (v0 : Ew n c Δ Δ d d2 s l) (p : ∀ E, Ew n (c + 10) Δ E d d2 s l → P (.bl true) E) : W__law_right K C [.cell n, d, d2, .lst (dgD ds), .int (m : Int)] Δ P := by
  have R := H.R
  have h5 := H.h5
  have h12 := H.h12
  have hi := itrG_rw R H.hd m
  unfold W__law_right z__law_right
  refine ⟨rfl, ?_⟩
  refine seq_cut fun rest hr => ?_
  walk_at "zz"
  refine H.rep (by omega) v0.s v0.l ?_
  have v1 := v0.app [.lst (isD (itrG l ds s m))]
  have t1 : Ls (Δ ++ [.lst (isD (itrG l ds s m))]) (.cell Δ.length) (itrG l ds s m) := Ls.last
  have ht : D.cell Δ.length ≠ .cell n := fun q => by
    have := v0.f.lt
    injection q with q
    omega
  generalize D.cell Δ.length = told at *
  generalize Δ ++ [.lst (isD (itrG l ds s m))] = E1 at *
  -- twice the drags
  subst hr
  refine seq_cut fun rest hr => ?_
  walk_at "zz"
  refine ⟨by decide, by decide, by rw [dgD_len, show Int.toNat 2 = 2 from rfl]; omega, divk (by decide) (by decide), ?_⟩
  have e2 : (List.replicate (Int.toNat 2) (dgD ds)).flatten = dgD (ds ++ ds) := by
    unfold dgD
    rw [List.map_append]
    show (List.map _ ds ++ (List.map _ ds ++ [])) = _
    rw [List.append_nil]
  rw [e2, show (m : Int) / 2 = ((m / 2 : Nat) : Int) by omega]
  refine lent_rep3 (ds := ds ++ ds) R h12 (fun d hd => H.hd d ((List.mem_append.mp hd).elim id id)) (way2_app H.w) (fun q => H.h0 (List.append_eq_nil_iff.mp q).1) (by rw [List.length_append]; omega) (by rw [List.map_append, List.sum_append]; have := H.sum; exact Nat.lt_of_le_of_lt (show _ ≤ 10 * 10 ^ 30 by omega) (by decide)) (by omega) v1.s v1.l (.inl rfl) ?_
  have v2 := v1.app [.lst (isD (itrG l (ds ++ ds) s (m / 2)))]
  have t2 := t1.app [.lst (isD (itrG l (ds ++ ds) s (m / 2)))]
  refine ⟨divk (by decide) (by decide), .r (by decide) (by decide), ?_⟩
  rw [show ((m / 2 : Nat) : Int) * 2 = ((m / 2 * 2 : Nat) : Int) by omega]
  refine H.rep (by omega) v2.s v2.l ?_
  have v3 := v2.app [.lst (isD (itrG l ds s (m / 2 * 2)))]
  have t3 := t2.app [.lst (isD (itrG l ds s (m / 2 * 2)))]
  refine ne_sameD (z := .lst (isD (itrG l ds s (m / 2 * 2)))) (by rw [itrG_two]; exact (Ls.last.app _).rdk) Ls.last.rdk (shp_ints _) ⟨false, rfl, (fun q => nomatch q), fun _ => ?_⟩
  generalize E1 ++ [.lst (isD (itrG l (ds ++ ds) s (m / 2)))] ++ [.lst (isD (itrG l ds s (m / 2 * 2)))] = E3 at *
  -- the factor
  subst hr
  refine seq_cut fun rest hr => ?_
  walk_at "zz"
  refine ⟨pow_ok (by decide) (by decide) (by decide), ?_⟩
  have e20 : (10 : Int) ^ Int.toNat 20 = 10 ^ 20 := rfl
  rw [e20]
  refine sip_ok v3.f (by omega) (by decide) (sm (by decide) (by decide)) fun a E4 a0 a1 f4 o4 => ?_
  have v4 := v3.off o4 f4 n1 n2
  have t4 := t3.off o4 ht
  try walk_at "zz"
  obtain ⟨k, hk, k0, k1⟩ : ∃ k : Int, 1 + a = k ∧ 0 < k ∧ k ≤ 10 ^ 20 := ⟨_, rfl, by omega, by omega⟩
  rw [hk]
  have kw : k.natAbs < 2 ^ 100 := Nat.lt_of_le_of_lt (show k.natAbs ≤ 10 ^ 20 by omega) (by decide)
  -- wide
  subst hr
  refine seq_cut fun rest hr => ?_
  walk_at "zz"
  refine comp_dg (f := fun d : Nat × Int => D.tup [.int (d.1 : Int), .int (d.2 * k)]) (by omega) (fun e he Q q => ?_) ?_
  · walk_at "zz"
    exact ⟨.w 200 100 (Nat.lt_of_le_of_lt (H.bd e he) (by decide)) kw, q⟩
  have ew : ds.map (fun d : Nat × Int => D.tup [.int (d.1 : Int), .int (d.2 * k)]) = dgD (scd k ds) := by unfold dgD scd; rw [List.map_map]; rfl
  rw [ew]
  -- great
  subst hr
  refine seq_cut fun rest hr => ?_
  unfold ziTup
  walk_at "zz"
  have bigS : ∀ i ∈ s, i.natAbs < 2 ^ 200 := fun i hi => Nat.lt_of_le_of_lt (show i.natAbs ≤ 10 ^ 31 by have := H.bs i hi; have := R.s0 i hi; omega) (by decide)
  have bigL : ∀ i ∈ l, i.natAbs < 2 ^ 200 := fun i hi => Nat.lt_of_le_of_lt (show i.natAbs ≤ 10 ^ 31 by have := H.bl i hi; have := R.l0 i hi; omega) (by decide)
  refine comp_map (α := D × List Int) (g := Prod.fst) (f := fun q : D × List Int => D.lst (isD (sc k q.2))) [(d, s), (d2, l)] [] (by simp) (fun q hq Q w => ?_) ?_
  · have hq2 : Ls E4 q.1 q.2 ∧ (∀ i ∈ q.2, i.natAbs < 2 ^ 200) ∧ q.2.length ≤ 40 := by
      simp only [List.mem_cons, List.not_mem_nil, or_false] at hq
      rcases hq with rfl | rfl
      · exact ⟨v4.s, bigS, R.forty⟩
      · exact ⟨v4.l, bigL, by rw [← R.len]; exact R.forty⟩
    obtain ⟨x, y⟩ := q
    obtain ⟨hx, hy, hl⟩ := hq2
    simp only [zLendL, zLcC, zgName, List.set_cons_succ, List.set_cons_zero, List.map_cons, List.map_nil]
    rw [hx.lent]
    simp only [lent_int]
    replace hl : y.length ≤ 40 := hl
    walk_at "zz"
    refine comp_is (f := fun i : Int => D.int (i * k)) (by omega) (fun i hi Q q => ?_) ?_
    · walk_at "zz"
      exact ⟨.w 200 100 (hy i hi) kw, q⟩
    rw [sc_isD]
    exact ⟨_, rfl, 0, rfl, _, rfl, bare_ints _, w⟩
  rw [List.nil_append]
  show rest _ _
  simp only [List.map_cons, List.map_nil]
  -- the scaled
  subst hr
  refine seq_cut fun rest hr => ?_
  walk_at "zz"
  have Rk := sc_rw R (c := k) (by omega)
  have lk : (scd k ds).length = ds.length := List.length_map _
  refine lent_rep3 (ds := scd k ds) Rk (by rw [sc_len]; exact h12) (fun d hd => by
    obtain ⟨e, he, rfl⟩ := List.mem_map.mp hd
    rw [sc_len]
    exact H.hd e he) (scd_way H.w k0) (fun q => H.h0 (List.map_eq_nil_iff.mp q)) (by rw [lk]; omega) (by
    rw [scd_sum, Int.natAbs_mul]
    exact Nat.lt_of_le_of_lt (Nat.mul_le_mul H.sum (show k.natAbs ≤ 10 ^ 20 by omega)) (by decide)) (by omega) (.inl rfl) (.inl rfl) (.inl rfl) ?_
  rw [sc_itr R H.hd k0]
  have v5 := v4.app [.lst (isD (sc k (itrG l ds s m)))]
  have t5 := t4.app [.lst (isD (sc k (itrG l ds s m)))]
  have w5 : Ls (E4 ++ [.lst (isD (sc k (itrG l ds s m)))]) (.cell E4.length) (sc k (itrG l ds s m)) := Ls.last
  generalize D.cell E4.length = big at *
  generalize E4 ++ [.lst (isD (sc k (itrG l ds s m)))] = E5 at *
  simp only [zLendL, zLcC, List.map_cons, List.map_nil]
  rw [t5.lent]
  simp only [lent_int]
  walk_at "zz"
  refine comp_is (f := fun i : Int => D.int (i * k)) (by omega) (fun i hi Q q => ?_) ?_
  · walk_at "zz"
    exact ⟨.w 200 100 (H.told m i hi) kw, q⟩
  rw [sc_isD]
  refine ⟨_, rfl, 0, rfl, _, rfl, bare_ints _, ?_⟩
  refine ne_sameD (z := .lst (isD (sc k (itrG l ds s m)))) w5.rdk (Ls.rdk (.inl rfl)) (shp_ints _) ⟨false, rfl, (fun q => nomatch q), fun _ => ?_⟩
  -- behind
  subst hr
  refine seq_cut fun rest hr => ?_
  walk_at "zz"
  have em : ds.map (fun d : Nat × Int => D.tup [.int ((s.length : Int) - 2 - (d.1 : Int)), .int (0 - d.2)]) = dgD (mir s.length ds) := by
    unfold dgD mir
    rw [List.map_map]
    refine List.map_congr_left fun d hd2 => ?_
    have := H.hd d hd2
    show _ = D.tup [.int ((s.length - 2 - d.1 : Nat) : Int), .int (-d.2)]
    rw [show ((s.length : Int) - 2 - (d.1 : Int)) = ((s.length - 2 - d.1 : Nat) : Int) by omega, Int.zero_sub]
  refine comp_dg (f := fun d : Nat × Int => D.tup [.int ((s.length : Int) - 2 - (d.1 : Int)), .int (0 - d.2)]) (by omega) (fun e he Q q => ?_) ?_
  · walk_at "zz"
    exact ⟨_, v5.s.seq, by rw [isD_len]; exact q⟩
  rw [em]
  subst hr
  refine seq_cut fun rest hr => ?_
  walk_at "zz"
  unfold zRev
  walk_at "zz"
  refine ⟨_, v5.s.lst, _, v5.l.lst, ?_⟩
  rw [rv_isD, rv_isD]
  have lm : (mir s.length ds).length = ds.length := List.length_map _
  refine lent_rep3 (rw_rev R) (by rw [List.length_reverse]; exact h12) (by rw [List.length_reverse]; exact mir_ok H.hd) (mir_way2 H.w _) (fun q => H.h0 (List.map_eq_nil_iff.mp q)) (by rw [lm]; omega) (by rw [mir_sum, Int.natAbs_neg]; exact Nat.lt_of_le_of_lt H.sum (by decide)) (by omega) (.inl rfl) (.inl rfl) (.inl rfl) ?_
  rw [itrG_rev R H.hd]
  have v6 := v5.app [.lst (isD (itrG l ds s m).reverse)]
  have t6 := t5.app [.lst (isD (itrG l ds s m).reverse)]
  refine ⟨_, t6.lst, ?_⟩
  rw [rv_isD]
  refine ne_sameD (z := .lst (isD (itrG l ds s m).reverse)) Ls.last.rdk (Ls.rdk (.inl rfl)) (shp_ints _) ⟨false, rfl, (fun q => nomatch q), fun _ => ?_⟩
  refine ⟨_, t6.lst, _, v6.s.lst, ?_⟩
  refine ne_ints rfl rfl ?_
  rw [hi.2.2, beq_self_eq_true]
  refine ⟨false, rfl, (fun q => nomatch q), fun _ => ?_⟩
  generalize E5 ++ [.lst (isD (itrG l ds s m).reverse)] = E6 at *
  -- none below its least
  subst hr
  refine seq_cut fun rest hr => ?_
  simp only [zIfS, zTest, zOp, zLendL, zLcC, List.map_cons, List.map_nil]
  rw [t6.lent, v6.l.lent]
  walk_at "zz"
  rw [zip_isD]
  refine comp_no ((itrG l ds s m).zip l) [] (fun q hq Q w => ?_) ?_
  · have hlt : ¬ q.1 < q.2 := by have := zip_le hi.1 hq; omega
    walk_at "zz"
    rw [decide_eq_false hlt]
    exact w _
  refine ⟨_, rfl, 0, rfl, _, rfl, rfl, ?_⟩
  refine ne_sameD (z := .lst []) rfl rfl rfl ⟨false, rfl, (fun q => nomatch q), fun _ => ?_⟩
  subst hr
  refine seq_cut fun rest hr => ?_
  walk_at "zz"
  refine ⟨_, t6.seq, ?_⟩
  subst hr
  refine seq_cut fun rest hr => ?_
  refine for_cut fun body hB => ?_
  walk_at "zz"
  refine loop_inv (fun i Γ E => ∃ (here : D) (u11 u12 : Option D), Ew n (c + 1) Δ E d d2 s l ∧ Ls E told (itrG l ds s m) ∧ Ls E here (rndG l (ds.take i) (itrG l ds s m)) ∧ Γ = [some (.cell n), some d, some d2, some (.lst (dgD ds)), some (.int (m : Int)), some told, some (.int k), some (.lst (dgD (scd k ds))), some (.lst [.lst (isD (sc k s)), .lst (isD (sc k l))]), some (.lst (dgD (mir s.length ds))), some here, u11, u12, none, none, none]) _ 0 _ _ ⟨_, none, none, v6.mono (by omega), t6, .inl rfl, rfl⟩ ?_ ?_
  · rintro i x Γ E Ze hx ⟨here, u11, u12, v, t, hh, rfl⟩ hnx _ _ _
    rw [Nat.zero_add] at *
    have il : i < ds.length := by
      have := (List.getElem?_eq_some_iff.mp hx).1
      rw [dgD_len] at this
      exact this
    rw [dgD_get il] at hx
    cases hx
    have hdk := H.hd _ (List.getElem_mem il)
    have e : ds.take (i + 1) = ds.take i ++ [ds[i]] := by rw [List.take_add_one, List.getElem?_eq_getElem il]; rfl
    have q := rndG_rw hi.1 (ds := ds.take i) fun d hd' => by rw [hi.2.1]; exact H.hd d (List.mem_of_mem_take hd')
    subst hB
    refine ⟨_, rfl, rfl, _, _, rfl, _, _, rfl, rfl, ?_⟩
    simp only [List.set_cons_succ, List.set_cons_zero]
    walk_at "zz"
    refine lent_drag q.1 (by rw [q.2.1, hi.2.1]; exact hdk) hh v.l ?_
    rw [← rndG_snoc2, ← e]
    exact hnx _ _ ⟨_, _, _, v.app _, t.app _, Ls.last, rfl⟩
  · rintro Γ E ⟨here, u11, u12, v, t, hh, rfl⟩
    rw [Nat.zero_add, dgD_len, List.take_length] at *
    show rest _ _
    subst hr
    refine seq_cut fun rest hr => ?_
    walk_at "zz"
    rw [show ((m : Int) + 1) = ((m + 1 : Nat) : Int) by omega]
    refine H.rep (by omega) v.s v.l ?_
    have v2 := v.app [.lst (isD (itrG l ds s (m + 1)))]
    have t2 := t.app [.lst (isD (itrG l ds s (m + 1)))]
    have h2 := hh.app [.lst (isD (itrG l ds s (m + 1)))]
    refine ne_sameD (z := .lst (isD (itrG l ds s (m + 1)))) Ls.last.rdk h2.rdk (shp_ints _) ⟨false, rfl, (fun q => nomatch q), fun _ => ?_⟩
    subst hr
    walk_at "zz"
    refine ⟨by rw [h2.rdk]; exact shp_ints _, by rw [t2.rdk]; exact shp_ints _, _, rfl, fun _ => p _ (v2.mono (by omega)), fun hc => ?_⟩
    rw [h2.rdk, t2.rdk] at hc
    have fx : rndG l ds (itrG l ds s m) = itrG l ds s m := eqD_ints (by simpa using hc)
    refine ⟨pow_ok (by decide) (by decide) (by decide), ?_⟩
    have ef : D.int (10 ^ Int.toNat 30) = .int ((10 ^ 30 : Nat) : Int) := rfl
    rw [ef]
    refine H.rep (by decide) v2.s v2.l ?_
    have e : itrG l ds s (10 ^ 30) = itrG l ds s m := by
      have := itrG_add (l := l) (ds := ds) (s := s) m (10 ^ 30 - m)
      rw [show m + (10 ^ 30 - m) = 10 ^ 30 by omega, itrG_fix fx] at this
      exact this.symm
    rw [e]
    refine eq_sameD (z := .lst (isD (itrG l ds s m))) Ls.last.rdk (t2.app _).rdk (shp_ints _) ?_
    exact p _ ((v2.app _).mono (by omega))
end
end Bx

namespace Bx
open PySem PySem.Spec PyProof.Rows L2 Z
local macro_rules | `(tactic| walk_at "zz") => `(tactic| simp only [zSeq, zAsg, zRet, zRetN, zIfS, zNext, zDrop, zPar, zPar3, zVar, zC, zOp, zUn, zNeg, zI0, zI, zTest, zAnd, zOr, zNot, zAndV, zOrV, zNotV, zIf, zNil, zCons, zTup, zLst, zLstC, zgName, zgTup, zgCons, zgNil, zgSub, startZ, zCall, zCB, zChain, zIsN, zNotN, zNever,
  zAddA, zMulA, zRepeat, zCat, zIx, seqD, lstD, zMax2, zMin2, zAbs, zLen, zSum, zGcd, zInt, zYes, zBreak, zCont, zMin1, zMax1, zList, zListC, zLcC, zLc, ziR1, ziR2, ziList, ziTup, ziZip, ziEnum, wipeZ, zFor, zSl, zPart, zNoPart, zAppend, zLstR1, zLstR2, zCallBC, zCallBF,
  at0, at1, at2, at3, at4, ix2_3, ix0_3, isNon_int, isNon_non, Bool.not_true, Bool.not_false,
  List.map_cons, List.map_nil, List.length_cons, List.length_nil, List.replicate_succ, List.replicate_zero, List.append_nil, List.nil_append, List.cons_append, List.getElem?_cons_zero, List.getElem?_cons_succ, List.set_cons_zero, List.set_cons_succ,
  Option.some.injEq, D.int.injEq, D.bl.injEq, D.tup.injEq, D.lst.injEq, D.str.injEq, D.cell.injEq, O.lst.injEq, reduceCtorEq, exists_eq_left', exists_eq_left, false_and, and_false, true_and, and_true, exists_false, or_false, false_or, exists_and_left, exists_eq', exists_and_right, List.cons.injEq, and_assoc, dec_not, dec_yes, nd_t, nd_f, t_t, t_f, f_t, f_f, true_implies, false_implies, implies_true, and_self, Nat.reduceAdd, Nat.reduceLeDiff, Nat.reduceSub, Nat.reduceLT])
local macro_rules | `(tactic| walk_at "zy") => `(tactic| try simp only [Option.some.injEq, D.int.injEq, D.bl.injEq, D.tup.injEq, D.lst.injEq, D.str.injEq, D.cell.injEq, O.lst.injEq, reduceCtorEq, exists_eq_left', exists_eq_left, false_and, and_false, true_and, and_true, exists_false, or_false, false_or, exists_and_left, exists_eq', exists_and_right, List.cons.injEq, and_assoc, dec_not, dec_yes, nd_t, nd_f, t_t, t_f, f_t, f_f, true_implies, false_implies, implies_true, and_self])
section
variable {K : PySem.W.Frag} {C : CI} {Δ Δ' E : Store} {P : D → Store → Prop} {d d2 dr : D} {s l f ns : List Int} {xs : List D} {n : Nat} {c : Int} {ds : List (Nat × Int)}
theorem cell_ne {a b : Nat} (h : a ≠ b) : D.cell a ≠ .cell b := fun q => h (by injection q)
theorem law_ok {ns : List Int} (hl : ns.length ≤ 63) : W_law K C [.scr ns] [] fun d _ => d = .bl true := by
  unfold W_law z_law
  refine ⟨rfl, ?_⟩
  refine seq_cut fun rest hr => ?_
  refine for_cut fun body hB => ?_
  walk_at "zz"
  rw [List.length_map]
  refine ⟨by split <;> split <;> omega, by split <;> split <;> omega, ?_⟩
  generalize hm : (if (if (ns.length : Int) < 5 then (ns.length : Int) else 5) > 1 then (if (ns.length : Int) < 5 then (ns.length : Int) else 5) else 1) = mm
  have m6 : mm ≤ 5 := by rw [← hm]; split <;> split <;> omega
  refine loop_all (I := fun Γ _ => ∃ u1 u2 u3 u4 u5 u6 u7 u8 u9 u10 u11, Γ = [some (.scr ns), u1, u2, u3, u4, u5, u6, u7, u8, u9, u10, u11]) ⟨_, _, _, _, _, _, _, _, _, _, _, rfl⟩ (fun x Γ Δ Ze hx hI hn _ _ _ => ?_) (fun Γ Δ hI => ?_)
  · obtain ⟨u1, u2, u3, u4, u5, u6, u7, u8, u9, u10, u11, rfl⟩ := hI
    obtain ⟨k, rfl, k0, k6⟩ : ∃ k : Int, x = .int k ∧ 0 ≤ k ∧ k < 5 := by
      unfold rangeD at hx
      obtain ⟨i, hi, rfl⟩ := List.mem_map.mp hx
      rw [List.mem_range] at hi
      exact ⟨_, rfl, by omega, by omega⟩
    subst hB
    simp only [zgName, List.set_cons_succ, List.set_cons_zero]
    refine seq_cut fun rest2 hr2 => ?_
    walk_at "zz"
    refine fount_ok k0 (by omega) fun Δ1 o e1 hf => ?_
    generalize Δ.length = n at *
    subst hr2
    refine for_cut fun body hB => ?_
    have inner : ∀ (most wide c : Int) (E : Store) (Ze' : ZEnds) (u3 u4 u5 u6 u7 u8 u9 u10 u11 : Option D), 1 ≤ wide → wide ≤ 10 ^ 30 → 5 ≤ most → most ≤ 12 → Fnt E n c → c ≤ 10 ^ 6 → (∀ E' v3 v4 v5 v6 v7 v8 v9 v10 v11, Fnt E' n (c + 2000) → Ze'.nx [some (.scr ns), some (.int k), some (.cell n), v3, v4, v5, v6, v7, v8, v9, v10, v11] E') →
        body (.tup [.int most, .int wide]) Ze' [some (.scr ns), some (.int k), some (.cell n), u3, u4, u5, u6, u7, u8, u9, u10, u11] E := by
      intro most wide c E Ze' u3 u4 u5 u6 u7 u8 u9 u10 u11 w1 w2 f1 f2 hE hc hnx
      subst hB
      refine ⟨_, rfl, rfl, _, _, rfl, _, _, rfl, rfl, ?_⟩
      simp only [List.set_cons_succ, List.set_cons_zero]
      refine seq_cut fun rest3 hr3 => ?_
      walk_at "zz"
      refine sip_ok hE (by omega) (by omega) (sm (by omega) (by omega)) fun a1 E1 a10 a11 g1 o1 => ?_
      try walk_at "zz"
      obtain ⟨many, hmany, m2, m12⟩ : ∃ many : Int, 2 + a1 = many ∧ 2 ≤ many ∧ many ≤ 12 := ⟨_, rfl, by omega, by omega⟩
      rw [hmany]
      subst hr3
      refine seq_cut fun rest3 hr3 => ?_
      walk_at "zz"
      refine sizes_ok g1 (by omega) (by omega) (by omega) (by omega) w2 fun s l m F R bs bl hs ex hF hm1 hm2 => ?_
      try walk_at "zz"
      have hmn : m ≠ n := by have := g1.lt; omega
      have hLF : Ls F (.cell m) s := .inr ⟨m, rfl, hm2⟩
      subst hr3
      refine seq_cut fun rest3 hr3 => ?_
      walk_at "zz"
      refine drawn_ok hF (by omega) m2 (by omega) w1 w2 fun ds F2 d0 d5 dw db o2 hF2 => ?_
      have hL2 := hLF.off o2 (cell_ne hmn)
      have H : Rd s l ds := ⟨R, by omega, fun d hd => by have := (db d hd).1; omega, dw, d0, d5, fun d hd => (db d hd).2, bs, bl⟩
      try walk_at "zz"
      -- how often
      subst hr3
      refine seq_cut fun rest3 hr3 => ?_
      walk_at "zz"
      refine sip_ok hF2 (by omega) (by decide) (sm (by decide) (by decide)) fun b1 F3 b10 b11 f3 o3 => ?_
      have hL3 := hL2.off o3 (cell_ne hmn)
      refine ⟨pow_ok (by decide) (by decide) (by decide), ?_⟩
      have e30 : (10 : Int) ^ Int.toNat 30 = 10 ^ 30 := rfl
      rw [e30]
      refine sip_ok f3 (by omega) (by decide) (sm (by decide) (by decide)) fun b2 F4 b20 b21 f4 o4 => ?_
      have hL4 := hL3.off o4 (cell_ne hmn)
      refine sip_ok f4 (by omega) (by decide) (sm (by decide) (by decide)) fun b3 F5 b30 b31 f5 o5 => ?_
      have hL5 := hL4.off o5 (cell_ne hmn)
      obtain ⟨d', hd, e⟩ := atM (l := [D.int b1, D.int b2]) b30 b31
      obtain ⟨t, rfl, t1⟩ : ∃ t : Nat, d' = .int (t : Int) ∧ (t : Int) < 10 ^ 30 := by
        simp only [List.mem_cons, List.not_mem_nil, or_false] at hd
        rcases hd with rfl | rfl
        · exact ⟨b1.toNat, by rw [Int.toNat_of_nonneg b10], by omega⟩
        · exact ⟨b2.toNat, by rw [Int.toNat_of_nonneg b20], by omega⟩
      refine ⟨_, b3, rfl, rfl, _, e, ?_⟩
      try walk_at "zz"
      subst hr3
      refine seq_cut fun rest3 hr3 => ?_
      walk_at "zz"
      refine right_ok H t1 (cell_ne hmn) (fun q => nomatch q) (by omega) ⟨Ex.refl _ _, f5, hL5, .inl rfl⟩ fun F6 v6 => ⟨true, rfl, (fun q => nomatch q), fun _ => ?_⟩
      have v6 : Ew n (c + 400) F6 F6 (.cell m) (.lst (isD l)) s l := ⟨Ex.refl _ _, v6.f.mono (by omega), v6.s, v6.l⟩
      subst hr3
      refine seq_cut fun rest3 hr3 => ?_
      walk_at "zz"
      refine sums_ok H (by omega) (cell_ne hmn) (fun q => nomatch q) (by omega) v6 fun F7 v7 => ⟨true, rfl, (fun q => nomatch q), fun _ => ?_⟩
      subst hr3
      refine seq_cut fun rest3 hr3 => ?_
      walk_at "zz"
      have l0 := List.length_pos_iff.mpr d0
      have hg : (dgD ds)[0]? = some (.tup [.int ((ds[0].1 : Nat) : Int), .int (ds[0]'l0).2]) := dgD_get l0
      have hk := H.hd _ (List.getElem_mem l0)
      have hb := H.bd _ (List.getElem_mem l0)
      refine ⟨_, atI_nat (i := 0) hg, ?_⟩
      generalize (ds[0]'l0).1 = sp at *
      generalize (ds[0]'l0).2 = z at *
      refine ⟨_, rfl, rfl, _, _, rfl, _, _, rfl, rfl, ?_⟩
      subst hr3
      walk_at "zz"
      have H1 : Rd s l [(sp, z)] := ⟨R, H.h12, fun d hd => by rw [List.mem_singleton.mp hd]; exact hk, .inr ⟨sp, fun d hd => by rw [List.mem_singleton.mp hd]⟩, by simp, by simp, fun d hd => by rw [List.mem_singleton.mp hd]; exact hb, bs, bl⟩
      refine H1.rep (m := 1) (by decide) v7.s v7.l ?_
      have v8 := v7.app [.lst (isD (itrG l [(sp, z)] s 1))]
      refine lent_drag R hk v8.s v8.l ?_
      refine ne_sameD (z := .lst (isD (drg s l sp z))) (Ls.last.app _).rdk Ls.last.rdk (shp_ints _) ⟨false, rfl, (fun q => nomatch q), fun _ => ?_⟩
      exact hnx _ _ _ _ _ _ _ _ _ _ ((v8.app _).f.mono (by omega))
    walk_at "zz"
    obtain ⟨q, eq, q1, q2⟩ : ∃ q : Int, atI [D.int 12, D.int 6] (if 1 < k then 1 else k) = some (.int q) ∧ 5 ≤ q ∧ q ≤ 12 := by
      by_cases c : k = 0
      · subst c; exact ⟨12, rfl, by decide, by decide⟩
      · have e : (if 1 < k then 1 else k) = (1 : Int) := by split <;> omega
        rw [e]; exact ⟨6, rfl, by decide, by decide⟩
    refine ⟨_, eq, pow_ok (by decide) (by decide) (by decide), ?_⟩
    refine inner _ _ _ _ _ _ _ _ _ _ _ _ _ _ (by decide) (by decide) (by decide) (by decide) hf (by decide) fun E v3 v4 v5 v6 v7 v8 v9 v10 v11 hE => ?_
    refine inner _ _ _ _ _ _ _ _ _ _ _ _ _ _ (by decide) (by decide) q1 q2 hE (by decide) fun E v3 v4 v5 v6 v7 v8 v9 v10 v11 hE => ?_
    exact hn _ _ ⟨_, _, _, _, _, _, _, _, _, _, _, rfl⟩
  · obtain ⟨u1, u2, u3, u4, u5, u6, u7, u8, u9, u10, u11, rfl⟩ := hI
    show rest _ _
    subst hr
    walk_at "zz"
end
end Bx

namespace Bx
open PySem PySem.Spec PyProof.Rows L2 Z
/-! ### what the top has written -/
structure Ad where
  f__law_fount : Addr
  d__law_fount : FuncData
  f__law_sip : Addr
  d__law_sip : FuncData
  f__law_sizes : Addr
  d__law_sizes : FuncData
  f__law_number : Addr
  d__law_number : FuncData
  f__law_drawn : Addr
  d__law_drawn : FuncData
  f_is_int : Addr
  d_is_int : FuncData
  f_are_sizes : Addr
  d_are_sizes : FuncData
  f_frees_of : Addr
  d_frees_of : FuncData
  f_check_sizes : Addr
  d_check_sizes : FuncData
  f_is_drag : Addr
  d_is_drag : FuncData
  f_check_drags : Addr
  d_check_drags : FuncData
  f_have_one_divider : Addr
  d_have_one_divider : FuncData
  f_check_directions : Addr
  d_check_directions : FuncData
  f_limited : Addr
  d_limited : FuncData
  f_path_of : Addr
  d_path_of : FuncData
  f_swung : Addr
  d_swung : FuncData
  f_seen_from_behind : Addr
  d_seen_from_behind : FuncData
  f_rows_of : Addr
  d_rows_of : FuncData
  f_one_behind_other : Addr
  d_one_behind_other : FuncData
  f_many_times : Addr
  d_many_times : FuncData
  f_lifted_by : Addr
  d_lifted_by : FuncData
  f_lowered_by : Addr
  d_lowered_by : FuncData
  f_repeated_heights : Addr
  d_repeated_heights : FuncData
  f_heights_of : Addr
  d_heights_of : FuncData
  f_sizes_with : Addr
  d_sizes_with : FuncData
  f_repeated : Addr
  d_repeated : FuncData
  f_check_index : Addr
  d_check_index : FuncData
  f_taken_to : Addr
  d_taken_to : FuncData
  f_dragged : Addr
  d_dragged : FuncData
  f__law_right : Addr
  d__law_right : FuncData
  f__law_sums_right : Addr
  d__law_sums_right : FuncData
  f_law : Addr
  d_law : FuncData
def adrOf (q : Ad) : Nat → Addr
  | _ => 0
abbrev CIof (q : Ad) : CI := ⟨adrOf q, nmsOf⟩
structure Tx (K : PySem.W.Frag) (mg : Str → Option Value) (q : Ad) : Prop where
  F__law_fount : Fun K "_law_fount" "_law_fount" s__law_fount q.f__law_fount q.d__law_fount
  b__law_fount : Binds K q.d__law_fount ["script", "k"] []
  m__law_fount : mg "_law_fount" = some (.ref q.f__law_fount)
  F__law_sip : Fun K "_law_sip" "_law_sip" s__law_sip q.f__law_sip q.d__law_sip
  b__law_sip : Binds K q.d__law_sip ["fount", "many"] []
  m__law_sip : mg "_law_sip" = some (.ref q.f__law_sip)
  F__law_sizes : Fun K "_law_sizes" "_law_sizes" s__law_sizes q.f__law_sizes q.d__law_sizes
  b__law_sizes : Binds K q.d__law_sizes ["fount", "many", "wide"] []
  m__law_sizes : mg "_law_sizes" = some (.ref q.f__law_sizes)
  F__law_number : Fun K "_law_number" "_law_number" s__law_number q.f__law_number q.d__law_number
  b__law_number : Binds K q.d__law_number ["fount", "wide"] []
  m__law_number : mg "_law_number" = some (.ref q.f__law_number)
  F__law_drawn : Fun K "_law_drawn" "_law_drawn" s__law_drawn q.f__law_drawn q.d__law_drawn
  b__law_drawn : Binds K q.d__law_drawn ["fount", "many", "wide"] []
  m__law_drawn : mg "_law_drawn" = some (.ref q.f__law_drawn)
  F_is_int : Fun K "is_int" "is_int" s_is_int q.f_is_int q.d_is_int
  b_is_int : Binds K q.d_is_int ["value"] []
  m_is_int : mg "is_int" = some (.ref q.f_is_int)
  F_are_sizes : Fun K "are_sizes" "are_sizes" s_are_sizes q.f_are_sizes q.d_are_sizes
  b_are_sizes : Binds K q.d_are_sizes ["value"] []
  m_are_sizes : mg "are_sizes" = some (.ref q.f_are_sizes)
  F_frees_of : Fun K "frees_of" "frees_of" s_frees_of q.f_frees_of q.d_frees_of
  b_frees_of : Binds K q.d_frees_of ["sizes", "leasts"] []
  m_frees_of : mg "frees_of" = some (.ref q.f_frees_of)
  F_check_sizes : Fun K "check_sizes" "check_sizes" s_check_sizes q.f_check_sizes q.d_check_sizes
  b_check_sizes : Binds K q.d_check_sizes ["sizes", "leasts"] []
  m_check_sizes : mg "check_sizes" = some (.ref q.f_check_sizes)
  F_is_drag : Fun K "is_drag" "is_drag" s_is_drag q.f_is_drag q.d_is_drag
  b_is_drag : Binds K q.d_is_drag ["value", "many"] []
  m_is_drag : mg "is_drag" = some (.ref q.f_is_drag)
  F_check_drags : Fun K "check_drags" "check_drags" s_check_drags q.f_check_drags q.d_check_drags
  b_check_drags : Binds K q.d_check_drags ["drags", "many"] []
  m_check_drags : mg "check_drags" = some (.ref q.f_check_drags)
  F_have_one_divider : Fun K "have_one_divider" "have_one_divider" s_have_one_divider q.f_have_one_divider q.d_have_one_divider
  b_have_one_divider : Binds K q.d_have_one_divider ["drags"] []
  m_have_one_divider : mg "have_one_divider" = some (.ref q.f_have_one_divider)
  F_check_directions : Fun K "check_directions" "check_directions" s_check_directions q.f_check_directions q.d_check_directions
  b_check_directions : Binds K q.d_check_directions ["drags"] []
  m_check_directions : mg "check_directions" = some (.ref q.f_check_directions)
  F_limited : Fun K "limited" "limited" s_limited q.f_limited q.d_limited
  b_limited : Binds K q.d_limited ["value", "least", "most"] []
  m_limited : mg "limited" = some (.ref q.f_limited)
  F_path_of : Fun K "path_of" "path_of" s_path_of q.f_path_of q.d_path_of
  b_path_of : Binds K q.d_path_of ["height", "numbers", "top"] []
  m_path_of : mg "path_of" = some (.ref q.f_path_of)
  F_swung : Fun K "swung" "swung" s_swung q.f_swung q.d_swung
  b_swung : Binds K q.d_swung ["heights", "top", "index", "numbers", "times"] []
  m_swung : mg "swung" = some (.ref q.f_swung)
  F_seen_from_behind : Fun K "seen_from_behind" "seen_from_behind" s_seen_from_behind q.f_seen_from_behind q.d_seen_from_behind
  b_seen_from_behind : Binds K q.d_seen_from_behind ["heights", "top"] []
  m_seen_from_behind : mg "seen_from_behind" = some (.ref q.f_seen_from_behind)
  F_rows_of : Fun K "rows_of" "rows_of" s_rows_of q.f_rows_of q.d_rows_of
  b_rows_of : Binds K q.d_rows_of ["drags", "many"] []
  m_rows_of : mg "rows_of" = some (.ref q.f_rows_of)
  F_one_behind_other : Fun K "one_behind_other" "one_behind_other" s_one_behind_other q.f_one_behind_other q.d_one_behind_other
  b_one_behind_other : Binds K q.d_one_behind_other ["first", "second"] []
  m_one_behind_other : mg "one_behind_other" = some (.ref q.f_one_behind_other)
  F_many_times : Fun K "many_times" "many_times" s_many_times q.f_many_times q.d_many_times
  b_many_times : Binds K q.d_many_times ["rows", "times"] []
  m_many_times : mg "many_times" = some (.ref q.f_many_times)
  F_lifted_by : Fun K "lifted_by" "lifted_by" s_lifted_by q.f_lifted_by q.d_lifted_by
  b_lifted_by : Binds K q.d_lifted_by ["heights", "top", "drags", "times"] []
  m_lifted_by : mg "lifted_by" = some (.ref q.f_lifted_by)
  F_lowered_by : Fun K "lowered_by" "lowered_by" s_lowered_by q.f_lowered_by q.d_lowered_by
  b_lowered_by : Binds K q.d_lowered_by ["heights", "top", "drags", "times"] []
  m_lowered_by : mg "lowered_by" = some (.ref q.f_lowered_by)
  F_repeated_heights : Fun K "repeated_heights" "repeated_heights" s_repeated_heights q.f_repeated_heights q.d_repeated_heights
  b_repeated_heights : Binds K q.d_repeated_heights ["heights", "top", "drags", "times"] []
  m_repeated_heights : mg "repeated_heights" = some (.ref q.f_repeated_heights)
  F_heights_of : Fun K "heights_of" "heights_of" s_heights_of q.f_heights_of q.d_heights_of
  b_heights_of : Binds K q.d_heights_of ["sizes", "leasts"] []
  m_heights_of : mg "heights_of" = some (.ref q.f_heights_of)
  F_sizes_with : Fun K "sizes_with" "sizes_with" s_sizes_with q.f_sizes_with q.d_sizes_with
  b_sizes_with : Binds K q.d_sizes_with ["heights", "leasts", "total"] []
  m_sizes_with : mg "sizes_with" = some (.ref q.f_sizes_with)
  F_repeated : Fun K "repeated" "repeated" s_repeated q.f_repeated q.d_repeated
  b_repeated : Binds K q.d_repeated ["sizes", "leasts", "drags", "times"] []
  m_repeated : mg "repeated" = some (.ref q.f_repeated)
  F_check_index : Fun K "check_index" "check_index" s_check_index q.f_check_index q.d_check_index
  b_check_index : Binds K q.d_check_index ["index", "many"] []
  m_check_index : mg "check_index" = some (.ref q.f_check_index)
  F_taken_to : Fun K "taken_to" "taken_to" s_taken_to q.f_taken_to q.d_taken_to
  b_taken_to : Binds K q.d_taken_to ["heights", "index", "height"] []
  m_taken_to : mg "taken_to" = some (.ref q.f_taken_to)
  F_dragged : Fun K "dragged" "dragged" s_dragged q.f_dragged q.d_dragged
  b_dragged : Binds K q.d_dragged ["sizes", "leasts", "index", "number"] []
  m_dragged : mg "dragged" = some (.ref q.f_dragged)
  F__law_right : Fun K "_law_right" "_law_right" s__law_right q.f__law_right q.d__law_right
  b__law_right : Binds K q.d__law_right ["fount", "sizes", "leasts", "drags_here", "many"] []
  m__law_right : mg "_law_right" = some (.ref q.f__law_right)
  F__law_sums_right : Fun K "_law_sums_right" "_law_sums_right" s__law_sums_right q.f__law_sums_right q.d__law_sums_right
  b__law_sums_right : Binds K q.d__law_sums_right ["fount", "sizes", "leasts", "drags_here", "many"] []
  m__law_sums_right : mg "_law_sums_right" = some (.ref q.f__law_sums_right)
  F_law : Fun K "law" "law" s_law q.f_law q.d_law
  b_law : Binds K q.d_law ["script"] []
  m_law : mg "law" = some (.ref q.f_law)
  c_MOST_BOXES : ∃ t, mg "MOST_BOXES" = some (.int 40 t)
  c_MOST_DRAGS : ∃ t, mg "MOST_DRAGS" = some (.int 40 t)
  c_MOST_REPEATED : ∃ t, mg "MOST_REPEATED" = some (.int 12 t)
  c_MOST_TIMES : ∃ t, mg "MOST_TIMES" = some (.int 1000000000000000000000000000000 t)
  n_abs : mg "abs" = none
  n_all : mg "all" = none
  n_bool : mg "bool" = none
  n_enumerate : mg "enumerate" = none
  n_int : mg "int" = none
  n_isinstance : mg "isinstance" = none
  n_len : mg "len" = none
  n_list : mg "list" = none
  n_max : mg "max" = none
  n_min : mg "min" = none
  n_range : mg "range" = none
  n_reversed : mg "reversed" = none
  n_sum : mg "sum" = none
  n_tuple : mg "tuple" = none
  n_zip : mg "zip" = none
section
variable {P : Program} {w : World} {K : PySem.W.Frag} {mg : Str → Option Value} {base : Heap} {q : Ad}
theorem ok__law_fount (T : Tx K mg q) : FnOk P w K mg base CX0 1 q.f__law_fount q.d__law_fount ["script", "k"] (SpZ K (CIof q) (W__law_fount K (CIof q))) :=
  fnz_ok T.F__law_fount sc__law_fount (fun _ _ _ h => h.1) fun cdv A outer s H E hr => ⟨z__law_fount K (CIof q),
    szs_cons (sz_set (i := 2) sc__law_fount.nd (ez_int))
    (szs_cons (sz_if (tz_cmp oz_lt (ez_var 1) (ez_callB cz_len T.n_len (by decide +kernel) (az_cons (ez_var 0) (az_nil)))) (szs_one (sz_set (i := 2) sc__law_fount.nd (ez_ix (ez_var 0) (ez_var 1)))) (szs_nil))
    (szs_one (sz_ret (ez_lstC (az_cons (ez_callB (cz_max2 rfl) T.n_max (by decide +kernel) (az_cons (ez_int) (az_cons (ez_op oz_sub (ez_var 2) (ez_op oz_pow (ez_int) (ez_int))) (az_nil)))) (az_cons (ez_op oz_add (ez_op oz_mul (ez_op oz_mod (ez_var 2) (ez_op oz_add (ez_op oz_pow (ez_int) (ez_int)) (ez_int))) (ez_int)) (ez_var 1)) (az_cons (ez_int) (az_nil)))))))),
    fun _ _ _ h => h.2⟩
theorem ok__law_sip (T : Tx K mg q) : FnOk P w K mg base CX0 1 q.f__law_sip q.d__law_sip ["fount", "many"] (SpZ K (CIof q) (W__law_sip K (CIof q))) :=
  fnz_ok T.F__law_sip sc__law_sip (fun _ _ _ h => h.1) fun cdv A outer s H E hr => ⟨z__law_sip K (CIof q),
    szs_cons (sz_if (tz_cmp oz_gt (ez_ix (ez_var 0) (ez_int)) (ez_int)) (szs_cons (sz_set (i := 2) sc__law_sip.nd (ez_op oz_mod (ez_ix (ez_var 0) (ez_int)) (ez_var 1)))
    (szs_cons (sz_asgSub (ez_op oz_fdiv (ez_ix (ez_var 0) (ez_int)) (ez_var 1)) (gz_sub (ez_var 0) (ez_int)))
    (szs_one (sz_ret (ez_var 2))))) (szs_nil))
    (szs_cons (sz_asgSub (ez_op oz_add (ez_ix (ez_var 0) (ez_int)) (ez_int)) (gz_sub (ez_var 0) (ez_int)))
    (szs_cons (sz_set (i := 3) sc__law_sip.nd (ez_op oz_mod (ez_op oz_powW (ez_op oz_add (ez_ix (ez_var 0) (ez_int)) (ez_op oz_mul (ez_int) (ez_ix (ez_var 0) (ez_int)))) (ez_int)) (ez_op oz_add (ez_op oz_pow (ez_int) (ez_int)) (ez_int))))
    (szs_cons (sz_set (i := 3) sc__law_sip.nd (ez_op oz_mod (ez_op oz_powW (ez_op oz_add (ez_var 3) (ez_op oz_mul (ez_int) (ez_ix (ez_var 0) (ez_int)))) (ez_int)) (ez_op oz_add (ez_op oz_pow (ez_int) (ez_int)) (ez_int))))
    (szs_one (sz_ret (ez_op oz_mod (ez_op oz_fdiv (ez_var 3) (ez_int)) (ez_var 1))))))),
    fun _ _ _ h => h.2⟩
theorem ok__law_sizes (T : Tx K mg q) : FnOk P w K mg base CX0 2 q.f__law_sizes q.d__law_sizes ["fount", "many", "wide"] (SpZ K (CIof q) (W__law_sizes K (CIof q))) :=
  fnz_ok T.F__law_sizes sc__law_sizes (fun _ _ _ h => h.1) fun cdv A outer s H E hr => ⟨z__law_sizes K (CIof q),
    szs_cons (sz_setLc (i := 3) (own := [("turn", 7)]) sc__law_sizes.nd rfl rfl (sw_true rfl rfl rfl (by decide +kernel)) (iz_r1 (az_cons (ez_var 1) (az_nil)) T.n_range) (blkOk_by (N := N__law_sizes) (sc := defScope s__law_sizes) (by decide +kernel)) (own_name (i := 7) (by decide)) (blkz (ref_gName) (fun _ _ _ _ _ => pg_name (i := 7) sc__law_sizes.nd rfl (by first | exact Or.inl rfl | exact Or.inr rfl) (by first | exact Or.inl rfl | exact Or.inr rfl)) (fun _ _ _ _ _ => tsz_nil) (fun _ _ _ _ _ => ez_ix (ez_lst (az_cons (ez_int) (az_cons (ez_calln (ok__law_sip T) (hr.mono (by decide)) T.m__law_sip T.F__law_sip.kp T.b__law_sip (az_cons (ez_var 0) (az_cons (ez_int) (az_nil)))) (az_cons (ez_calln (ok__law_sip T) (hr.mono (by decide)) T.m__law_sip T.F__law_sip.kp T.b__law_sip (az_cons (ez_var 0) (az_cons (ez_op oz_add (ez_op oz_fdiv (ez_var 2) (ez_int)) (ez_int)) (az_nil)))) (az_nil))))) (ez_calln (ok__law_sip T) (hr.mono (by decide)) T.m__law_sip T.F__law_sip.kp T.b__law_sip (az_cons (ez_var 0) (az_cons (ez_int) (az_nil)))))))
    (szs_cons (sz_set (i := 4) sc__law_sizes.nd (ez_lstC (az_nil)))
    (szs_cons (sz_for (iz_list (ez_var 3)) (gz_name (i := 5) sc__law_sizes.nd rfl) (szs_cons (sz_set (i := 6) sc__law_sizes.nd (ez_ix (ez_lst (az_cons (ez_int) (az_cons (ez_calln (ok__law_sip T) (hr.mono (by decide)) T.m__law_sip T.F__law_sip.kp T.b__law_sip (az_cons (ez_var 0) (az_cons (ez_int) (az_nil)))) (az_cons (ez_calln (ok__law_sip T) (hr.mono (by decide)) T.m__law_sip T.F__law_sip.kp T.b__law_sip (az_cons (ez_var 0) (az_cons (ez_op oz_add (ez_op oz_fdiv (ez_var 2) (ez_int)) (ez_int)) (az_nil)))) (az_nil))))) (ez_calln (ok__law_sip T) (hr.mono (by decide)) T.m__law_sip T.F__law_sip.kp T.b__law_sip (az_cons (ez_var 0) (az_cons (ez_int) (az_nil))))))
    (szs_one (sz_expr (ez_append (ez_var 4) (az_cons (ez_op oz_add (ez_var 5) (ez_var 6)) (az_nil)))))))
    (szs_one (sz_ret (ez_tup (az_cons (ez_var 4) (az_cons (ez_var 3) (az_nil)))))))),
    fun _ _ _ h => h.2⟩
theorem ok__law_number (T : Tx K mg q) : FnOk P w K mg base CX0 2 q.f__law_number q.d__law_number ["fount", "wide"] (SpZ K (CIof q) (W__law_number K (CIof q))) :=
  fnz_ok T.F__law_number sc__law_number (fun _ _ _ h => h.1) fun cdv A outer s H E hr => ⟨z__law_number K (CIof q),
    szs_cons (sz_set (i := 2) sc__law_number.nd (ez_ix (ez_lst (az_cons (ez_int) (az_cons (ez_calln (ok__law_sip T) (hr.mono (by decide)) T.m__law_sip T.F__law_sip.kp T.b__law_sip (az_cons (ez_var 0) (az_cons (ez_int) (az_nil)))) (az_cons (ez_calln (ok__law_sip T) (hr.mono (by decide)) T.m__law_sip T.F__law_sip.kp T.b__law_sip (az_cons (ez_var 0) (az_cons (ez_int) (az_nil)))) (az_cons (ez_calln (ok__law_sip T) (hr.mono (by decide)) T.m__law_sip T.F__law_sip.kp T.b__law_sip (az_cons (ez_var 0) (az_cons (ez_op oz_add (ez_var 1) (ez_int)) (az_nil)))) (az_nil)))))) (ez_calln (ok__law_sip T) (hr.mono (by decide)) T.m__law_sip T.F__law_sip.kp T.b__law_sip (az_cons (ez_var 0) (az_cons (ez_int) (az_nil))))))
    (szs_one (sz_ret (ez_op oz_mul (ez_var 2) (ez_ix (ez_lst (az_cons (ez_int) (az_cons (ez_neg (ez_int)) (az_nil)))) (ez_calln (ok__law_sip T) (hr.mono (by decide)) T.m__law_sip T.F__law_sip.kp T.b__law_sip (az_cons (ez_var 0) (az_cons (ez_int) (az_nil)))))))),
    fun _ _ _ h => h.2⟩
theorem ok__law_drawn (T : Tx K mg q) : FnOk P w K mg base CX0 3 q.f__law_drawn q.d__law_drawn ["fount", "many", "wide"] (SpZ K (CIof q) (W__law_drawn K (CIof q))) :=
  fnz_ok T.F__law_drawn sc__law_drawn (fun _ _ _ h => h.1) fun cdv A outer s H E hr => ⟨z__law_drawn K (CIof q),
    szs_cons (sz_par3 (i := 3) (j := 4) (l := 5) sc__law_drawn.nd rfl rfl rfl (by decide) (by decide) (by decide) rfl rfl rfl (az_cons (ez_lstC (az_nil)) (az_cons (ez_calln (ok__law_sip T) (hr.mono (by decide)) T.m__law_sip T.F__law_sip.kp T.b__law_sip (az_cons (ez_var 0) (az_cons (ez_op oz_sub (ez_var 1) (ez_int)) (az_nil)))) (az_cons (ez_calln (ok__law_sip T) (hr.mono (by decide)) T.m__law_sip T.F__law_sip.kp T.b__law_sip (az_cons (ez_var 0) (az_cons (ez_int) (az_nil)))) (az_nil)))))
    (szs_cons (sz_for (iz_r1 (az_cons (ez_op oz_add (ez_int) (ez_calln (ok__law_sip T) (hr.mono (by decide)) T.m__law_sip T.F__law_sip.kp T.b__law_sip (az_cons (ez_var 0) (az_cons (ez_int) (az_nil))))) (az_nil)) T.n_range) (gz_name (i := 6) sc__law_drawn.nd rfl) (szs_cons (sz_set (i := 7) sc__law_drawn.nd (ez_calln (ok__law_number T) (hr.mono (by decide)) T.m__law_number T.F__law_number.kp T.b__law_number (az_cons (ez_var 0) (az_cons (ez_ix (ez_lst (az_cons (ez_int) (az_cons (ez_var 2) (az_nil)))) (ez_calln (ok__law_sip T) (hr.mono (by decide)) T.m__law_sip T.F__law_sip.kp T.b__law_sip (az_cons (ez_var 0) (az_cons (ez_int) (az_nil))))) (az_nil)))))
    (szs_cons (sz_set (i := 8) sc__law_drawn.nd (ez_if (tz_cmp (oz_eqD hr.units) (ez_var 5) (ez_int)) (ez_var 4) (ez_calln (ok__law_sip T) (hr.mono (by decide)) T.m__law_sip T.F__law_sip.kp T.b__law_sip (az_cons (ez_var 0) (az_cons (ez_op oz_sub (ez_var 1) (ez_int)) (az_nil))))))
    (szs_one (sz_expr (ez_append (ez_var 3) (az_cons (ez_tup (az_cons (ez_var 8) (az_cons (ez_ix (ez_lst (az_cons (ez_var 7) (az_cons (ez_callB cz_abs T.n_abs (by decide +kernel) (az_cons (ez_var 7) (az_nil))) (az_cons (ez_op oz_sub (ez_int) (ez_callB cz_abs T.n_abs (by decide +kernel) (az_cons (ez_var 7) (az_nil)))) (az_nil))))) (ez_var 5)) (az_nil)))) (az_nil))))))))
    (szs_one (sz_ret (ez_var 3)))),
    fun _ _ _ h => h.2⟩
theorem ok_is_int (T : Tx K mg q) : FnOk P w K mg base CX0 1 q.f_is_int q.d_is_int ["value"] (SpZ K (CIof q) (W_is_int K (CIof q))) :=
  fnz_ok T.F_is_int sc_is_int (fun _ _ _ h => h.1) fun cdv A outer s H E hr => ⟨z_is_int K (CIof q),
    szs_one (sz_ret (ez_and (ez_callB cz_isi T.n_isinstance (by decide +kernel) (az_cons (ez_var 0) (az_cons (ez_ty T.n_int PyProof.Rows.boot_int) (az_nil)))) (ez_one (ez_not (ez_callB cz_isi T.n_isinstance (by decide +kernel) (az_cons (ez_var 0) (az_cons (ez_ty T.n_bool PyProof.Rows.boot_bool) (az_nil)))))))),
    fun _ _ _ h => h.2⟩
theorem ok_are_sizes (T : Tx K mg q) : FnOk P w K mg base CX0 2 q.f_are_sizes q.d_are_sizes ["value"] (SpZ K (CIof q) (W_are_sizes K (CIof q))) :=
  fnz_ok T.F_are_sizes sc_are_sizes (fun _ _ _ h => h.1) fun cdv A outer s H E hr => ⟨z_are_sizes K (CIof q),
    szs_cons (sz_if ((wz_or (tz_not (tz_val (ez_callB cz_isi T.n_isinstance (by decide +kernel) (az_cons (ez_var 0) (az_cons (ez_ty T.n_list PyProof.Rows.boot_list) (az_nil)))))) (wz_or1 (tz_not (tz_chain oz_le oz_le (ez_int) (ez_callB cz_len T.n_len (by decide +kernel) (az_cons (ez_var 0) (az_nil))) (ez_gint (Classical.choose_spec T.c_MOST_BOXES)))))).tz) (szs_one (sz_ret (ez_bl))) (szs_nil))
    (szs_one (sz_ret (ez_callB (cz_all rfl) T.n_all (by decide +kernel) (az_cons (ez_lc (own := [("size", 1)]) sc_are_sizes.nd (iz_list (ez_var 0)) (blkOk_by (N := N_are_sizes) (sc := defScope s_are_sizes) (by decide +kernel)) (own_name (i := 1) (by decide)) (blkz (ref_gName) (fun _ _ _ _ _ => pg_name (i := 1) sc_are_sizes.nd rfl (by first | exact Or.inl rfl | exact Or.inr rfl) (by first | exact Or.inl rfl | exact Or.inr rfl)) (fun _ _ _ _ _ => tsz_nil) (fun _ _ _ _ _ => ez_and (ez_calln (ok_is_int T) (hr.mono (by decide)) T.m_is_int T.F_is_int.kp T.b_is_int (az_cons (ez_var 1) (az_nil))) (ez_one (ez_cmp oz_ge (ez_var 1) (ez_int)))))) (az_nil))))),
    fun _ _ _ h => h.2⟩
theorem ok_frees_of (T : Tx K mg q) : FnOk P w K mg base CX0 1 q.f_frees_of q.d_frees_of ["sizes", "leasts"] (SpZ K (CIof q) (W_frees_of K (CIof q))) :=
  fnz_ok T.F_frees_of sc_frees_of (fun _ _ _ h => h.1) fun cdv A outer s H E hr => ⟨z_frees_of K (CIof q),
    szs_one (sz_ret (ez_lc (own := [("size", 2), ("least", 3)]) sc_frees_of.nd (iz_zip (az_cons (ez_var 0) (az_cons (ez_var 1) (az_nil))) T.n_zip) (blkOk_by (N := N_frees_of) (sc := defScope s_frees_of) (by decide +kernel)) (own_tup (owns_cons (i := 2) (by decide) (owns_cons (i := 3) (by decide) (owns_nil)))) (blkz (ref_gTup (ref_gCons ref_gName (ref_gCons ref_gName (ref_gNil)))) (fun _ _ _ _ _ => pg_tup rfl (pgs_cons (pg_name (i := 2) sc_frees_of.nd rfl (by first | exact Or.inl rfl | exact Or.inr rfl) (by first | exact Or.inl rfl | exact Or.inr rfl)) (pgs_cons (pg_name (i := 3) sc_frees_of.nd rfl (by first | exact Or.inl rfl | exact Or.inr rfl) (by first | exact Or.inl rfl | exact Or.inr rfl)) (pgs_nil)))) (fun _ _ _ _ _ => tsz_nil) (fun _ _ _ _ _ => ez_op oz_sub (ez_var 2) (ez_var 3))))),
    fun _ _ _ h => h.2⟩
theorem ok_check_sizes (T : Tx K mg q) : FnOk P w K mg base CX0 3 q.f_check_sizes q.d_check_sizes ["sizes", "leasts"] (SpZ K (CIof q) (W_check_sizes K (CIof q))) :=
  fnz_ok T.F_check_sizes sc_check_sizes (fun _ _ _ h => h.1) fun cdv A outer s H E hr => ⟨z_check_sizes K (CIof q),
    szs_cons (sz_if ((wz_or (tz_not (tz_val (ez_calln (ok_are_sizes T) (hr.mono (by decide)) T.m_are_sizes T.F_are_sizes.kp T.b_are_sizes (az_cons (ez_var 0) (az_nil))))) (wz_or (tz_not (tz_val (ez_calln (ok_are_sizes T) (hr.mono (by decide)) T.m_are_sizes T.F_are_sizes.kp T.b_are_sizes (az_cons (ez_var 1) (az_nil))))) (wz_or1 (tz_cmp (oz_neD hr.units) (ez_callB cz_len T.n_len (by decide +kernel) (az_cons (ez_var 0) (az_nil))) (ez_callB cz_len T.n_len (by decide +kernel) (az_cons (ez_var 1) (az_nil))))))).tz) (szs_one (sz_never)) (szs_nil))
    (szs_one (sz_if (tz_cmp oz_lt (ez_callB (cz_min1 rfl) T.n_min (by decide +kernel) (az_cons (ez_calln (ok_frees_of T) (hr.mono (by decide)) T.m_frees_of T.F_frees_of.kp T.b_frees_of (az_cons (ez_var 0) (az_cons (ez_var 1) (az_nil)))) (az_nil))) (ez_int)) (szs_one (sz_never)) (szs_nil))),
    fun _ _ _ h => h.2⟩
theorem ok_is_drag (T : Tx K mg q) : FnOk P w K mg base CX0 2 q.f_is_drag q.d_is_drag ["value", "many"] (SpZ K (CIof q) (W_is_drag K (CIof q))) :=
  fnz_ok T.F_is_drag sc_is_drag (fun _ _ _ h => h.1) fun cdv A outer s H E hr => ⟨z_is_drag K (CIof q),
    szs_cons (sz_if ((wz_or (tz_not (tz_val (ez_callB cz_isi T.n_isinstance (by decide +kernel) (az_cons (ez_var 0) (az_cons (ez_ty T.n_tuple PyProof.Rows.boot_tuple) (az_nil)))))) (wz_or1 (tz_cmp (oz_neD hr.units) (ez_callB cz_len T.n_len (by decide +kernel) (az_cons (ez_var 0) (az_nil))) (ez_int)))).tz) (szs_one (sz_ret (ez_bl))) (szs_nil))
    (szs_cons (sz_asg (ez_var 0) (gz_tup (gsz_cons (gz_name (i := 2) sc_is_drag.nd rfl) (gsz_cons (gz_name (i := 3) sc_is_drag.nd rfl) (gsz_nil)))))
    (szs_one (sz_ret (ez_and (ez_calln (ok_is_int T) (hr.mono (by decide)) T.m_is_int T.F_is_int.kp T.b_is_int (az_cons (ez_var 2) (az_nil))) (ez_and (ez_chain oz_le oz_lt (ez_int) (ez_var 2) (ez_var 1)) (ez_one (ez_calln (ok_is_int T) (hr.mono (by decide)) T.m_is_int T.F_is_int.kp T.b_is_int (az_cons (ez_var 3) (az_nil))))))))),
    fun _ _ _ h => h.2⟩
theorem ok_check_drags (T : Tx K mg q) : FnOk P w K mg base CX0 3 q.f_check_drags q.d_check_drags ["drags", "many"] (SpZ K (CIof q) (W_check_drags K (CIof q))) :=
  fnz_ok T.F_check_drags sc_check_drags (fun _ _ _ h => h.1) fun cdv A outer s H E hr => ⟨z_check_drags K (CIof q),
    szs_cons (sz_if ((wz_or (tz_not (tz_val (ez_callB cz_isi T.n_isinstance (by decide +kernel) (az_cons (ez_var 0) (az_cons (ez_ty T.n_list PyProof.Rows.boot_list) (az_nil)))))) (wz_or1 (tz_not (tz_chain oz_le oz_le (ez_int) (ez_callB cz_len T.n_len (by decide +kernel) (az_cons (ez_var 0) (az_nil))) (ez_gint (Classical.choose_spec T.c_MOST_DRAGS)))))).tz) (szs_one (sz_never)) (szs_nil))
    (szs_one (sz_if (tz_not (tz_val (ez_callB (cz_all rfl) T.n_all (by decide +kernel) (az_cons (ez_lc (own := [("drag", 2)]) sc_check_drags.nd (iz_list (ez_var 0)) (blkOk_by (N := N_check_drags) (sc := defScope s_check_drags) (by decide +kernel)) (own_name (i := 2) (by decide)) (blkz (ref_gName) (fun _ _ _ _ _ => pg_name (i := 2) sc_check_drags.nd rfl (by first | exact Or.inl rfl | exact Or.inr rfl) (by first | exact Or.inl rfl | exact Or.inr rfl)) (fun _ _ _ _ _ => tsz_nil) (fun _ _ _ _ _ => ez_calln (ok_is_drag T) (hr.mono (by decide)) T.m_is_drag T.F_is_drag.kp T.b_is_drag (az_cons (ez_var 2) (az_cons (ez_var 1) (az_nil)))))) (az_nil))))) (szs_one (sz_never)) (szs_nil))),
    fun _ _ _ h => h.2⟩
theorem ok_have_one_divider (T : Tx K mg q) : FnOk P w K mg base CX0 1 q.f_have_one_divider q.d_have_one_divider ["drags"] (SpZ K (CIof q) (W_have_one_divider K (CIof q))) :=
  fnz_ok T.F_have_one_divider sc_have_one_divider (fun _ _ _ h => h.1) fun cdv A outer s H E hr => ⟨z_have_one_divider K (CIof q),
    szs_one (sz_ret (ez_cmp (oz_eqD hr.units) (ez_lenS (own := [("index", 1), ("_", 2)]) T.n_len sc_have_one_divider.nd (iz_list (ez_var 0)) (blkOk_by (N := N_have_one_divider) (sc := defScope s_have_one_divider) (by decide +kernel)) (own_tup (owns_cons (i := 1) (by decide) (owns_cons (i := 2) (by decide) (owns_nil)))) (blkz (ref_gTup (ref_gCons ref_gName (ref_gCons ref_gName (ref_gNil)))) (fun _ _ _ _ _ => pg_tup rfl (pgs_cons (pg_name (i := 1) sc_have_one_divider.nd rfl (by first | exact Or.inl rfl | exact Or.inr rfl) (by first | exact Or.inl rfl | exact Or.inr rfl)) (pgs_cons (pg_name (i := 2) sc_have_one_divider.nd rfl (by first | exact Or.inl rfl | exact Or.inr rfl) (by first | exact Or.inl rfl | exact Or.inr rfl)) (pgs_nil)))) (fun _ _ _ _ _ => tsz_nil) (fun _ _ _ _ _ => ez_var 1))) (ez_int))),
    fun _ _ _ h => h.2⟩
theorem ok_check_directions (T : Tx K mg q) : FnOk P w K mg base CX0 2 q.f_check_directions q.d_check_directions ["drags"] (SpZ K (CIof q) (W_check_directions K (CIof q))) :=
  fnz_ok T.F_check_directions sc_check_directions (fun _ _ _ h => h.1) fun cdv A outer s H E hr => ⟨z_check_directions K (CIof q),
    szs_cons (sz_setLc (i := 1) (own := [("_", 2), ("number", 3)]) sc_check_directions.nd rfl rfl (sw_true rfl rfl rfl (by decide +kernel)) (iz_list (ez_var 0)) (blkOk_by (N := N_check_directions) (sc := defScope s_check_directions) (by decide +kernel)) (own_tup (owns_cons (i := 2) (by decide) (owns_cons (i := 3) (by decide) (owns_nil)))) (blkz (ref_gTup (ref_gCons ref_gName (ref_gCons ref_gName (ref_gNil)))) (fun _ _ _ _ _ => pg_tup rfl (pgs_cons (pg_name (i := 2) sc_check_directions.nd rfl (by first | exact Or.inl rfl | exact Or.inr rfl) (by first | exact Or.inl rfl | exact Or.inr rfl)) (pgs_cons (pg_name (i := 3) sc_check_directions.nd rfl (by first | exact Or.inl rfl | exact Or.inr rfl) (by first | exact Or.inl rfl | exact Or.inr rfl)) (pgs_nil)))) (fun _ _ _ _ _ => tsz_nil) (fun _ _ _ _ _ => ez_var 3)))
    (szs_one (sz_if ((wz_and (tz_not (tz_val (ez_calln (ok_have_one_divider T) (hr.mono (by decide)) T.m_have_one_divider T.F_have_one_divider.kp T.b_have_one_divider (az_cons (ez_var 0) (az_nil))))) (wz_and1 (tz_chain oz_lt oz_lt (ez_callB (cz_min1 rfl) T.n_min (by decide +kernel) (az_cons (ez_var 1) (az_nil))) (ez_int) (ez_callB (cz_max1 rfl) T.n_max (by decide +kernel) (az_cons (ez_var 1) (az_nil)))))).tz) (szs_one (sz_never)) (szs_nil))),
    fun _ _ _ h => h.2⟩
theorem ok_limited (T : Tx K mg q) : FnOk P w K mg base CX0 1 q.f_limited q.d_limited ["value", "least", "most"] (SpZ K (CIof q) (W_limited K (CIof q))) :=
  fnz_ok T.F_limited sc_limited (fun _ _ _ h => h.1) fun cdv A outer s H E hr => ⟨z_limited K (CIof q),
    szs_cons (sz_if (tz_cmp oz_lt (ez_var 0) (ez_var 1)) (szs_one (sz_ret (ez_var 1))) (szs_nil))
    (szs_cons (sz_if ((wz_and (tz_cmp oz_notN (ez_var 2) (ez_non)) (wz_and1 (tz_cmp oz_gt (ez_var 0) (ez_var 2)))).tz) (szs_one (sz_ret (ez_var 2))) (szs_nil))
    (szs_one (sz_ret (ez_var 0)))),
    fun _ _ _ h => h.2⟩
theorem ok_path_of (T : Tx K mg q) : FnOk P w K mg base CX0 2 q.f_path_of q.d_path_of ["height", "numbers", "top"] (SpZ K (CIof q) (W_path_of K (CIof q))) :=
  fnz_ok T.F_path_of sc_path_of (fun _ _ _ h => h.1) fun cdv A outer s H E hr => ⟨z_path_of K (CIof q),
    szs_cons (sz_set (i := 3) sc_path_of.nd (ez_lstC (az_cons (ez_var 0) (az_nil))))
    (szs_cons (sz_for (iz_list (ez_var 1)) (gz_name (i := 4) sc_path_of.nd rfl) (szs_one (sz_expr (ez_append (ez_var 3) (az_cons (ez_calln (ok_limited T) (hr.mono (by decide)) T.m_limited T.F_limited.kp T.b_limited (az_cons (ez_op oz_add (ez_ix (ez_var 3) (ez_neg (ez_int))) (ez_var 4)) (az_cons (ez_int) (az_cons (ez_var 2) (az_nil))))) (az_nil))))))
    (szs_one (sz_ret (ez_var 3)))),
    fun _ _ _ h => h.2⟩
theorem ok_swung (T : Tx K mg q) : FnOk P w K mg base CX0 3 q.f_swung q.d_swung ["heights", "top", "index", "numbers", "times"] (SpZ K (CIof q) (W_swung K (CIof q))) :=
  fnz_ok T.F_swung sc_swung (fun _ _ _ h => h.1) fun cdv A outer s H E hr => ⟨z_swung K (CIof q),
    szs_cons (sz_set (i := 5) sc_swung.nd (ez_calln (ok_path_of T) (hr.mono (by decide)) T.m_path_of T.F_path_of.kp T.b_path_of (az_cons (ez_ix (ez_var 0) (ez_var 2)) (az_cons (ez_var 3) (az_cons (ez_var 1) (az_nil))))))
    (szs_cons (sz_set (i := 6) sc_swung.nd (ez_ix (ez_var 0) (ez_var 2)))
    (szs_cons (sz_if (tz_cmp oz_gt (ez_var 4) (ez_int)) (szs_cons (sz_par (i := 7) (j := 8) sc_swung.nd rfl rfl (by decide) rfl rfl (az_cons (ez_ix (ez_calln (ok_path_of T) (hr.mono (by decide)) T.m_path_of T.F_path_of.kp T.b_path_of (az_cons (ez_int) (az_cons (ez_var 3) (az_cons (ez_var 1) (az_nil))))) (ez_neg (ez_int))) (az_cons (ez_ix (ez_calln (ok_path_of T) (hr.mono (by decide)) T.m_path_of T.F_path_of.kp T.b_path_of (az_cons (ez_var 1) (az_cons (ez_var 3) (az_cons (ez_var 1) (az_nil))))) (ez_neg (ez_int))) (az_nil))))
    (szs_one (sz_set (i := 6) sc_swung.nd (ez_calln (ok_limited T) (hr.mono (by decide)) T.m_limited T.F_limited.kp T.b_limited (az_cons (ez_op oz_add (ez_ix (ez_var 5) (ez_neg (ez_int))) (ez_op oz_mul (ez_op oz_sub (ez_var 4) (ez_int)) (ez_callB (cz_sum rfl) T.n_sum (by decide +kernel) (az_cons (ez_var 3) (az_nil))))) (az_cons (ez_var 7) (az_cons (ez_var 8) (az_nil)))))))) (szs_nil))
    (szs_cons (sz_set (i := 9) sc_swung.nd (ez_op oz_cat (ez_var 5) (ez_calln (ok_path_of T) (hr.mono (by decide)) T.m_path_of T.F_path_of.kp T.b_path_of (az_cons (ez_var 6) (az_cons (ez_var 3) (az_cons (ez_var 1) (az_nil)))))))
    (szs_cons (sz_setLc (i := 10) (own := [("height", 11)]) sc_swung.nd rfl rfl (sw_true rfl rfl rfl (by decide +kernel)) (iz_list (ez_sl (ez_var 0) oz_none (oz_some (ez_var 2)))) (blkOk_by (N := N_swung) (sc := defScope s_swung) (by decide +kernel)) (own_name (i := 11) (by decide)) (blkz (ref_gName) (fun _ _ _ _ _ => pg_name (i := 11) sc_swung.nd rfl (by first | exact Or.inl rfl | exact Or.inr rfl) (by first | exact Or.inl rfl | exact Or.inr rfl)) (fun _ _ _ _ _ => tsz_nil) (fun _ _ _ _ _ => ez_callB (cz_min2 rfl) T.n_min (by decide +kernel) (az_cons (ez_var 11) (az_cons (ez_callB (cz_min1 rfl) T.n_min (by decide +kernel) (az_cons (ez_var 9) (az_nil))) (az_nil))))))
    (szs_one (sz_ret (ez_op oz_cat (ez_op oz_cat (ez_var 10) (ez_lst (az_cons (ez_ix (ez_var 9) (ez_neg (ez_int))) (az_nil)))) (ez_lc (own := [("height", 11)]) sc_swung.nd (iz_list (ez_sl (ez_var 0) (oz_some (ez_op oz_add (ez_var 2) (ez_int))) oz_none)) (blkOk_by (N := N_swung) (sc := defScope s_swung) (by decide +kernel)) (own_name (i := 11) (by decide)) (blkz (ref_gName) (fun _ _ _ _ _ => pg_name (i := 11) sc_swung.nd rfl (by first | exact Or.inl rfl | exact Or.inr rfl) (by first | exact Or.inl rfl | exact Or.inr rfl)) (fun _ _ _ _ _ => tsz_nil) (fun _ _ _ _ _ => ez_callB (cz_max2 rfl) T.n_max (by decide +kernel) (az_cons (ez_var 11) (az_cons (ez_callB (cz_max1 rfl) T.n_max (by decide +kernel) (az_cons (ez_var 9) (az_nil))) (az_nil))))))))))))),
    fun _ _ _ h => h.2⟩
theorem ok_seen_from_behind (T : Tx K mg q) : FnOk P w K mg base CX0 1 q.f_seen_from_behind q.d_seen_from_behind ["heights", "top"] (SpZ K (CIof q) (W_seen_from_behind K (CIof q))) :=
  fnz_ok T.F_seen_from_behind sc_seen_from_behind (fun _ _ _ h => h.1) fun cdv A outer s H E hr => ⟨z_seen_from_behind K (CIof q),
    szs_one (sz_ret (ez_lc (own := [("height", 2)]) sc_seen_from_behind.nd (iz_rev (ez_var 0) T.n_reversed) (blkOk_by (N := N_seen_from_behind) (sc := defScope s_seen_from_behind) (by decide +kernel)) (own_name (i := 2) (by decide)) (blkz (ref_gName) (fun _ _ _ _ _ => pg_name (i := 2) sc_seen_from_behind.nd rfl (by first | exact Or.inl rfl | exact Or.inr rfl) (by first | exact Or.inl rfl | exact Or.inr rfl)) (fun _ _ _ _ _ => tsz_nil) (fun _ _ _ _ _ => ez_op oz_sub (ez_var 1) (ez_var 2))))),
    fun _ _ _ h => h.2⟩
theorem ok_rows_of (T : Tx K mg q) : FnOk P w K mg base CX0 1 q.f_rows_of q.d_rows_of ["drags", "many"] (SpZ K (CIof q) (W_rows_of K (CIof q))) :=
  fnz_ok T.F_rows_of sc_rows_of (fun _ _ _ h => h.1) fun cdv A outer s H E hr => ⟨z_rows_of K (CIof q),
    szs_cons (sz_setLcC (i := 2) (own := [("at", 6)]) sc_rows_of.nd rfl rfl (sw_true rfl rfl rfl (by decide +kernel)) (iz_r1 (az_cons (ez_var 1) (az_nil)) T.n_range) (blkOk_by (N := N_rows_of) (sc := defScope s_rows_of) (by decide +kernel)) (own_name (i := 6) (by decide)) (blkz (ref_gName) (fun _ _ _ _ _ => pg_name (i := 6) sc_rows_of.nd rfl (by first | exact Or.inl rfl | exact Or.inr rfl) (by first | exact Or.inl rfl | exact Or.inr rfl)) (fun _ _ _ _ _ => tsz_nil) (fun _ _ _ _ _ => ez_op oz_rep (ez_lst (az_cons (ez_int) (az_nil))) (ez_op oz_add (ez_var 6) (ez_int)))))
    (szs_cons (sz_for (iz_list (ez_var 0)) (gz_tup (gsz_cons (gz_name (i := 3) sc_rows_of.nd rfl) (gsz_cons (gz_name (i := 4) sc_rows_of.nd rfl) (gsz_nil)))) (szs_cons (sz_setLc (i := 5) (own := [("more", 7)]) sc_rows_of.nd rfl rfl (sw_true rfl rfl rfl (by decide +kernel)) (iz_list (ez_ix (ez_var 2) (ez_var 3))) (blkOk_by (N := N_rows_of) (sc := defScope s_rows_of) (by decide +kernel)) (own_name (i := 7) (by decide)) (blkz (ref_gName) (fun _ _ _ _ _ => pg_name (i := 7) sc_rows_of.nd rfl (by first | exact Or.inl rfl | exact Or.inr rfl) (by first | exact Or.inl rfl | exact Or.inr rfl)) (fun _ _ _ _ _ => tsz_nil) (fun _ _ _ _ _ => ez_op oz_add (ez_var 7) (ez_var 4))))
    (szs_one (sz_for (iz_r2 (az_cons (ez_var 3) (az_cons (ez_var 1) (az_nil))) T.n_range) (gz_name (i := 6) sc_rows_of.nd rfl) (szs_one (sz_asgSub (ez_op oz_cat (ez_lc (own := [("old", 8), ("new", 9)]) sc_rows_of.nd (iz_zip (az_cons (ez_ix (ez_var 2) (ez_var 6)) (az_cons (ez_var 5) (az_nil))) T.n_zip) (blkOk_by (N := N_rows_of) (sc := defScope s_rows_of) (by decide +kernel)) (own_tup (owns_cons (i := 8) (by decide) (owns_cons (i := 9) (by decide) (owns_nil)))) (blkz (ref_gTup (ref_gCons ref_gName (ref_gCons ref_gName (ref_gNil)))) (fun _ _ _ _ _ => pg_tup rfl (pgs_cons (pg_name (i := 8) sc_rows_of.nd rfl (by first | exact Or.inl rfl | exact Or.inr rfl) (by first | exact Or.inl rfl | exact Or.inr rfl)) (pgs_cons (pg_name (i := 9) sc_rows_of.nd rfl (by first | exact Or.inl rfl | exact Or.inr rfl) (by first | exact Or.inl rfl | exact Or.inr rfl)) (pgs_nil)))) (fun _ _ _ _ _ => tsz_nil) (fun _ _ _ _ _ => ez_callB (cz_max2 rfl) T.n_max (by decide +kernel) (az_cons (ez_var 8) (az_cons (ez_var 9) (az_nil)))))) (ez_sl (ez_ix (ez_var 2) (ez_var 6)) (oz_some (ez_op oz_add (ez_var 3) (ez_int))) oz_none)) (gz_sub (ez_var 2) (ez_var 6))))))))
    (szs_one (sz_ret (ez_var 2)))),
    fun _ _ _ h => h.2⟩
theorem ok_one_behind_other (T : Tx K mg q) : FnOk P w K mg base CX0 1 q.f_one_behind_other q.d_one_behind_other ["first", "second"] (SpZ K (CIof q) (W_one_behind_other K (CIof q))) :=
  fnz_ok T.F_one_behind_other sc_one_behind_other (fun _ _ _ h => h.1) fun cdv A outer s H E hr => ⟨z_one_behind_other K (CIof q),
    szs_one (sz_ret (ez_lc (own := [("j", 2), ("row", 3)]) sc_one_behind_other.nd (iz_enum (az_cons (ez_var 1) (az_nil)) T.n_enumerate) (blkOk_by (N := N_one_behind_other) (sc := defScope s_one_behind_other) (by decide +kernel)) (own_tup (owns_cons (i := 2) (by decide) (owns_cons (i := 3) (by decide) (owns_nil)))) (blkz (ref_gTup (ref_gCons ref_gName (ref_gCons ref_gName (ref_gNil)))) (fun _ _ _ _ _ => pg_tup rfl (pgs_cons (pg_name (i := 2) sc_one_behind_other.nd rfl (by first | exact Or.inl rfl | exact Or.inr rfl) (by first | exact Or.inl rfl | exact Or.inr rfl)) (pgs_cons (pg_name (i := 3) sc_one_behind_other.nd rfl (by first | exact Or.inl rfl | exact Or.inr rfl) (by first | exact Or.inl rfl | exact Or.inr rfl)) (pgs_nil)))) (fun _ _ _ _ _ => tsz_nil) (fun _ _ _ _ _ => ez_lc (own := [("i", 4)]) sc_one_behind_other.nd (iz_r1 (az_cons (ez_op oz_add (ez_var 2) (ez_int)) (az_nil)) T.n_range) (blkOk_in (N := N_one_behind_other) (blkOk_by (N := N_one_behind_other) (by decide +kernel))) (own_name (i := 4) (by decide)) (blkz (ref_gName) (fun _ _ _ _ _ => pg_name (i := 4) sc_one_behind_other.nd rfl (by first | exact Or.inl rfl | exact Or.inr rfl) (by first | exact Or.inl rfl | exact Or.inr rfl)) (fun _ _ _ _ _ => tsz_nil) (fun _ _ _ _ _ => ez_callB (cz_max1 rfl) T.n_max (by decide +kernel) (az_cons (ez_lc (own := [("k", 5)]) sc_one_behind_other.nd (iz_r2 (az_cons (ez_var 4) (az_cons (ez_op oz_add (ez_var 2) (ez_int)) (az_nil))) T.n_range) (blkOk_in (N := N_one_behind_other) (blkOk_by (N := N_one_behind_other) (by decide +kernel))) (own_name (i := 5) (by decide)) (blkz (ref_gName) (fun _ _ _ _ _ => pg_name (i := 5) sc_one_behind_other.nd rfl (by first | exact Or.inl rfl | exact Or.inr rfl) (by first | exact Or.inl rfl | exact Or.inr rfl)) (fun _ _ _ _ _ => tsz_nil) (fun _ _ _ _ _ => ez_op oz_add (ez_ix (ez_var 3) (ez_var 5)) (ez_ix (ez_ix (ez_var 0) (ez_var 5)) (ez_var 4))))) (az_nil)))))))),
    fun _ _ _ h => h.2⟩
theorem ok_many_times (T : Tx K mg q) : FnOk P w K mg base CX0 2 q.f_many_times q.d_many_times ["rows", "times"] (SpZ K (CIof q) (W_many_times K (CIof q))) :=
  fnz_ok T.F_many_times sc_many_times (fun _ _ _ h => h.1) fun cdv A outer s H E hr => ⟨z_many_times K (CIof q),
    szs_cons (sz_set (i := 2) sc_many_times.nd (ez_calln (fn_frzM (ok_rows_of T)) (hr.mono (by decide)) T.m_rows_of T.F_rows_of.kp T.b_rows_of (az_cons (ez_lst (az_nil)) (az_cons (ez_callB cz_len T.n_len (by decide +kernel) (az_cons (ez_var 0) (az_nil))) (az_nil)))))
    (szs_cons (sz_while (tz_cmp oz_gt (ez_var 1) (ez_int)) (szs_cons (sz_if (tz_cmp (oz_eqD hr.units) (ez_op oz_mod (ez_var 1) (ez_int)) (ez_int)) (szs_one (sz_set (i := 2) sc_many_times.nd (ez_calln (ok_one_behind_other T) (hr.mono (by decide)) T.m_one_behind_other T.F_one_behind_other.kp T.b_one_behind_other (az_cons (ez_var 2) (az_cons (ez_var 0) (az_nil)))))) (szs_nil))
    (szs_cons (sz_set (i := 0) sc_many_times.nd (ez_calln (ok_one_behind_other T) (hr.mono (by decide)) T.m_one_behind_other T.F_one_behind_other.kp T.b_one_behind_other (az_cons (ez_var 0) (az_cons (ez_var 0) (az_nil)))))
    (szs_one (sz_set (i := 1) sc_many_times.nd (ez_op oz_fdiv (ez_var 1) (ez_int)))))))
    (szs_one (sz_ret (ez_var 2)))),
    fun _ _ _ h => h.2⟩
theorem ok_lifted_by (T : Tx K mg q) : FnOk P w K mg base CX0 3 q.f_lifted_by q.d_lifted_by ["heights", "top", "drags", "times"] (SpZ K (CIof q) (W_lifted_by K (CIof q))) :=
  fnz_ok T.F_lifted_by sc_lifted_by (fun _ _ _ h => h.1) fun cdv A outer s H E hr => ⟨z_lifted_by K (CIof q),
    szs_cons (sz_set (i := 4) sc_lifted_by.nd (ez_calln (ok_many_times T) (hr.mono (by decide)) T.m_many_times T.F_many_times.kp T.b_many_times (az_cons (ez_calln (fn_frzM (ok_rows_of T)) (hr.mono (by decide)) T.m_rows_of T.F_rows_of.kp T.b_rows_of (az_cons (ez_var 2) (az_cons (ez_callB cz_len T.n_len (by decide +kernel) (az_cons (ez_var 0) (az_nil))) (az_nil)))) (az_cons (ez_var 3) (az_nil)))))
    (szs_one (sz_ret (ez_lc (own := [("row", 5)]) sc_lifted_by.nd (iz_list (ez_var 4)) (blkOk_by (N := N_lifted_by) (sc := defScope s_lifted_by) (by decide +kernel)) (own_name (i := 5) (by decide)) (blkz (ref_gName) (fun _ _ _ _ _ => pg_name (i := 5) sc_lifted_by.nd rfl (by first | exact Or.inl rfl | exact Or.inr rfl) (by first | exact Or.inl rfl | exact Or.inr rfl)) (fun _ _ _ _ _ => tsz_nil) (fun _ _ _ _ _ => ez_callB (cz_min2 rfl) T.n_min (by decide +kernel) (az_cons (ez_var 1) (az_cons (ez_callB (cz_max1 rfl) T.n_max (by decide +kernel) (az_cons (ez_lc (own := [("more", 6), ("height", 7)]) sc_lifted_by.nd (iz_zip (az_cons (ez_var 5) (az_cons (ez_var 0) (az_nil))) T.n_zip) (blkOk_in (N := N_lifted_by) (blkOk_by (N := N_lifted_by) (by decide +kernel))) (own_tup (owns_cons (i := 6) (by decide) (owns_cons (i := 7) (by decide) (owns_nil)))) (blkz (ref_gTup (ref_gCons ref_gName (ref_gCons ref_gName (ref_gNil)))) (fun _ _ _ _ _ => pg_tup rfl (pgs_cons (pg_name (i := 6) sc_lifted_by.nd rfl (by first | exact Or.inl rfl | exact Or.inr rfl) (by first | exact Or.inl rfl | exact Or.inr rfl)) (pgs_cons (pg_name (i := 7) sc_lifted_by.nd rfl (by first | exact Or.inl rfl | exact Or.inr rfl) (by first | exact Or.inl rfl | exact Or.inr rfl)) (pgs_nil)))) (fun _ _ _ _ _ => tsz_nil) (fun _ _ _ _ _ => ez_op oz_add (ez_var 6) (ez_var 7)))) (az_nil))) (az_nil)))))))),
    fun _ _ _ h => h.2⟩
theorem ok_lowered_by (T : Tx K mg q) : FnOk P w K mg base CX0 4 q.f_lowered_by q.d_lowered_by ["heights", "top", "drags", "times"] (SpZ K (CIof q) (W_lowered_by K (CIof q))) :=
  fnz_ok T.F_lowered_by sc_lowered_by (fun _ _ _ h => h.1) fun cdv A outer s H E hr => ⟨z_lowered_by K (CIof q),
    szs_cons (sz_set (i := 4) sc_lowered_by.nd (ez_op oz_sub (ez_callB cz_len T.n_len (by decide +kernel) (az_cons (ez_var 0) (az_nil))) (ez_int)))
    (szs_cons (sz_setLc (i := 5) (own := [("index", 6), ("number", 7)]) sc_lowered_by.nd rfl rfl (sw_true rfl rfl rfl (by decide +kernel)) (iz_list (ez_var 2)) (blkOk_by (N := N_lowered_by) (sc := defScope s_lowered_by) (by decide +kernel)) (own_tup (owns_cons (i := 6) (by decide) (owns_cons (i := 7) (by decide) (owns_nil)))) (blkz (ref_gTup (ref_gCons ref_gName (ref_gCons ref_gName (ref_gNil)))) (fun _ _ _ _ _ => pg_tup rfl (pgs_cons (pg_name (i := 6) sc_lowered_by.nd rfl (by first | exact Or.inl rfl | exact Or.inr rfl) (by first | exact Or.inl rfl | exact Or.inr rfl)) (pgs_cons (pg_name (i := 7) sc_lowered_by.nd rfl (by first | exact Or.inl rfl | exact Or.inr rfl) (by first | exact Or.inl rfl | exact Or.inr rfl)) (pgs_nil)))) (fun _ _ _ _ _ => tsz_nil) (fun _ _ _ _ _ => ez_tup (az_cons (ez_op oz_sub (ez_var 4) (ez_var 6)) (az_cons (ez_neg (ez_var 7)) (az_nil))))))
    (szs_one (sz_ret (ez_calln (ok_seen_from_behind T) (hr.mono (by decide)) T.m_seen_from_behind T.F_seen_from_behind.kp T.b_seen_from_behind (az_cons (ez_calln (ok_lifted_by T) (hr.mono (by decide)) T.m_lifted_by T.F_lifted_by.kp T.b_lifted_by (az_cons (ez_calln (ok_seen_from_behind T) (hr.mono (by decide)) T.m_seen_from_behind T.F_seen_from_behind.kp T.b_seen_from_behind (az_cons (ez_var 0) (az_cons (ez_var 1) (az_nil)))) (az_cons (ez_var 1) (az_cons (ez_var 5) (az_cons (ez_var 3) (az_nil)))))) (az_cons (ez_var 1) (az_nil))))))),
    fun _ _ _ h => h.2⟩
theorem ok_repeated_heights (T : Tx K mg q) : FnOk P w K mg base CX0 5 q.f_repeated_heights q.d_repeated_heights ["heights", "top", "drags", "times"] (SpZ K (CIof q) (W_repeated_heights K (CIof q))) :=
  fnz_ok T.F_repeated_heights sc_repeated_heights (fun _ _ _ h => h.1) fun cdv A outer s H E hr => ⟨z_repeated_heights K (CIof q),
    szs_cons (sz_setLc (i := 4) (own := [("_", 5), ("number", 6)]) sc_repeated_heights.nd rfl rfl (sw_true rfl rfl rfl (by decide +kernel)) (iz_list (ez_var 2)) (blkOk_by (N := N_repeated_heights) (sc := defScope s_repeated_heights) (by decide +kernel)) (own_tup (owns_cons (i := 5) (by decide) (owns_cons (i := 6) (by decide) (owns_nil)))) (blkz (ref_gTup (ref_gCons ref_gName (ref_gCons ref_gName (ref_gNil)))) (fun _ _ _ _ _ => pg_tup rfl (pgs_cons (pg_name (i := 5) sc_repeated_heights.nd rfl (by first | exact Or.inl rfl | exact Or.inr rfl) (by first | exact Or.inl rfl | exact Or.inr rfl)) (pgs_cons (pg_name (i := 6) sc_repeated_heights.nd rfl (by first | exact Or.inl rfl | exact Or.inr rfl) (by first | exact Or.inl rfl | exact Or.inr rfl)) (pgs_nil)))) (fun _ _ _ _ _ => tsz_nil) (fun _ _ _ _ _ => ez_var 6)))
    (szs_cons (sz_if (tz_val (ez_calln (ok_have_one_divider T) (hr.mono (by decide)) T.m_have_one_divider T.F_have_one_divider.kp T.b_have_one_divider (az_cons (ez_var 2) (az_nil)))) (szs_one (sz_ret (ez_calln (ok_swung T) (hr.mono (by decide)) T.m_swung T.F_swung.kp T.b_swung (az_cons (ez_var 0) (az_cons (ez_var 1) (az_cons (ez_ix (ez_ix (ez_var 2) (ez_int)) (ez_int)) (az_cons (ez_var 4) (az_cons (ez_var 3) (az_nil))))))))) (szs_nil))
    (szs_cons (sz_if (tz_cmp oz_lt (ez_callB (cz_min1 rfl) T.n_min (by decide +kernel) (az_cons (ez_var 4) (az_nil))) (ez_int)) (szs_one (sz_ret (ez_calln (ok_lowered_by T) (hr.mono (by decide)) T.m_lowered_by T.F_lowered_by.kp T.b_lowered_by (az_cons (ez_var 0) (az_cons (ez_var 1) (az_cons (ez_var 2) (az_cons (ez_var 3) (az_nil)))))))) (szs_nil))
    (szs_one (sz_ret (ez_calln (ok_lifted_by T) (hr.mono (by decide)) T.m_lifted_by T.F_lifted_by.kp T.b_lifted_by (az_cons (ez_var 0) (az_cons (ez_var 1) (az_cons (ez_var 2) (az_cons (ez_var 3) (az_nil)))))))))),
    fun _ _ _ h => h.2⟩
theorem ok_heights_of (T : Tx K mg q) : FnOk P w K mg base CX0 2 q.f_heights_of q.d_heights_of ["sizes", "leasts"] (SpZ K (CIof q) (W_heights_of K (CIof q))) :=
  fnz_ok T.F_heights_of sc_heights_of (fun _ _ _ h => h.1) fun cdv A outer s H E hr => ⟨z_heights_of K (CIof q),
    szs_cons (sz_set (i := 2) sc_heights_of.nd (ez_calln (ok_frees_of T) (hr.mono (by decide)) T.m_frees_of T.F_frees_of.kp T.b_frees_of (az_cons (ez_var 0) (az_cons (ez_var 1) (az_nil)))))
    (szs_one (sz_ret (ez_lc (own := [("index", 3)]) sc_heights_of.nd (iz_r1 (az_cons (ez_op oz_sub (ez_callB cz_len T.n_len (by decide +kernel) (az_cons (ez_var 2) (az_nil))) (ez_int)) (az_nil)) T.n_range) (blkOk_by (N := N_heights_of) (sc := defScope s_heights_of) (by decide +kernel)) (own_name (i := 3) (by decide)) (blkz (ref_gName) (fun _ _ _ _ _ => pg_name (i := 3) sc_heights_of.nd rfl (by first | exact Or.inl rfl | exact Or.inr rfl) (by first | exact Or.inl rfl | exact Or.inr rfl)) (fun _ _ _ _ _ => tsz_nil) (fun _ _ _ _ _ => ez_callB (cz_sum rfl) T.n_sum (by decide +kernel) (az_cons (ez_sl (ez_var 2) oz_none (oz_some (ez_op oz_add (ez_var 3) (ez_int)))) (az_nil))))))),
    fun _ _ _ h => h.2⟩
theorem ok_sizes_with (T : Tx K mg q) : FnOk P w K mg base CX0 1 q.f_sizes_with q.d_sizes_with ["heights", "leasts", "total"] (SpZ K (CIof q) (W_sizes_with K (CIof q))) :=
  fnz_ok T.F_sizes_with sc_sizes_with (fun _ _ _ h => h.1) fun cdv A outer s H E hr => ⟨z_sizes_with K (CIof q),
    szs_cons (sz_set (i := 3) sc_sizes_with.nd (ez_op oz_cat (ez_op oz_cat (ez_lst (az_cons (ez_int) (az_nil))) (ez_var 0)) (ez_lst (az_cons (ez_op oz_sub (ez_var 2) (ez_callB (cz_sum rfl) T.n_sum (by decide +kernel) (az_cons (ez_var 1) (az_nil)))) (az_nil)))))
    (szs_one (sz_ret (ez_lcC (own := [("at", 4), ("least", 5)]) sc_sizes_with.nd (iz_enum (az_cons (ez_var 1) (az_nil)) T.n_enumerate) (blkOk_by (N := N_sizes_with) (sc := defScope s_sizes_with) (by decide +kernel)) (own_tup (owns_cons (i := 4) (by decide) (owns_cons (i := 5) (by decide) (owns_nil)))) (blkz (ref_gTup (ref_gCons ref_gName (ref_gCons ref_gName (ref_gNil)))) (fun _ _ _ _ _ => pg_tup rfl (pgs_cons (pg_name (i := 4) sc_sizes_with.nd rfl (by first | exact Or.inl rfl | exact Or.inr rfl) (by first | exact Or.inl rfl | exact Or.inr rfl)) (pgs_cons (pg_name (i := 5) sc_sizes_with.nd rfl (by first | exact Or.inl rfl | exact Or.inr rfl) (by first | exact Or.inl rfl | exact Or.inr rfl)) (pgs_nil)))) (fun _ _ _ _ _ => tsz_nil) (fun _ _ _ _ _ => ez_op oz_sub (ez_op oz_add (ez_var 5) (ez_ix (ez_var 3) (ez_op oz_add (ez_var 4) (ez_int)))) (ez_ix (ez_var 3) (ez_var 4))))))),
    fun _ _ _ h => h.2⟩
theorem ok_repeated (T : Tx K mg q) : FnOk P w K mg base CX0 6 q.f_repeated q.d_repeated ["sizes", "leasts", "drags", "times"] (SpZ K (CIof q) (W_repeated K (CIof q))) :=
  fnz_ok T.F_repeated sc_repeated (fun _ _ _ h => h.1) fun cdv A outer s H E hr => ⟨z_repeated K (CIof q),
    szs_cons (sz_expr (ez_calln (ok_check_sizes T) (hr.mono (by decide)) T.m_check_sizes T.F_check_sizes.kp T.b_check_sizes (az_cons (ez_var 0) (az_cons (ez_var 1) (az_nil)))))
    (szs_cons (sz_expr (ez_calln (ok_check_drags T) (hr.mono (by decide)) T.m_check_drags T.F_check_drags.kp T.b_check_drags (az_cons (ez_var 2) (az_cons (ez_op oz_sub (ez_callB cz_len T.n_len (by decide +kernel) (az_cons (ez_var 0) (az_nil))) (ez_int)) (az_nil)))))
    (szs_cons (sz_if ((wz_or (tz_not (tz_val (ez_calln (ok_is_int T) (hr.mono (by decide)) T.m_is_int T.F_is_int.kp T.b_is_int (az_cons (ez_var 3) (az_nil))))) (wz_or1 (tz_not (tz_chain oz_le oz_le (ez_int) (ez_var 3) (ez_gint (Classical.choose_spec T.c_MOST_TIMES)))))).tz) (szs_one (sz_never)) (szs_nil))
    (szs_cons (sz_expr (ez_calln (ok_check_directions T) (hr.mono (by decide)) T.m_check_directions T.F_check_directions.kp T.b_check_directions (az_cons (ez_var 2) (az_nil))))
    (szs_cons (sz_if (tz_cmp oz_gt (ez_callB cz_len T.n_len (by decide +kernel) (az_cons (ez_var 0) (az_nil))) (ez_gint (Classical.choose_spec T.c_MOST_REPEATED))) (szs_one (sz_never)) (szs_nil))
    (szs_cons (sz_if (tz_cmp (oz_eqD hr.units) (ez_var 3) (ez_int)) (szs_one (sz_ret (ez_callTy cz_listC T.n_list (by decide +kernel) (az_cons (ez_var 0) (az_nil))))) (szs_nil))
    (szs_cons (sz_set (i := 4) sc_repeated.nd (ez_calln (ok_repeated_heights T) (hr.mono (by decide)) T.m_repeated_heights T.F_repeated_heights.kp T.b_repeated_heights (az_cons (ez_calln (ok_heights_of T) (hr.mono (by decide)) T.m_heights_of T.F_heights_of.kp T.b_heights_of (az_cons (ez_var 0) (az_cons (ez_var 1) (az_nil)))) (az_cons (ez_callB (cz_sum rfl) T.n_sum (by decide +kernel) (az_cons (ez_calln (ok_frees_of T) (hr.mono (by decide)) T.m_frees_of T.F_frees_of.kp T.b_frees_of (az_cons (ez_var 0) (az_cons (ez_var 1) (az_nil)))) (az_nil))) (az_cons (ez_var 2) (az_cons (ez_var 3) (az_nil)))))))
    (szs_one (sz_ret (ez_calln (ok_sizes_with T) (hr.mono (by decide)) T.m_sizes_with T.F_sizes_with.kp T.b_sizes_with (az_cons (ez_var 4) (az_cons (ez_var 1) (az_cons (ez_callB (cz_sum rfl) T.n_sum (by decide +kernel) (az_cons (ez_var 0) (az_nil))) (az_nil))))))))))))),
    fun _ _ _ h => h.2⟩
theorem ok_check_index (T : Tx K mg q) : FnOk P w K mg base CX0 2 q.f_check_index q.d_check_index ["index", "many"] (SpZ K (CIof q) (W_check_index K (CIof q))) :=
  fnz_ok T.F_check_index sc_check_index (fun _ _ _ h => h.1) fun cdv A outer s H E hr => ⟨z_check_index K (CIof q),
    szs_one (sz_if ((wz_or (tz_not (tz_val (ez_calln (ok_is_int T) (hr.mono (by decide)) T.m_is_int T.F_is_int.kp T.b_is_int (az_cons (ez_var 0) (az_nil))))) (wz_or1 (tz_not (tz_chain oz_le oz_lt (ez_int) (ez_var 0) (ez_var 1))))).tz) (szs_one (sz_never)) (szs_nil)),
    fun _ _ _ h => h.2⟩
theorem ok_taken_to (T : Tx K mg q) : FnOk P w K mg base CX0 1 q.f_taken_to q.d_taken_to ["heights", "index", "height"] (SpZ K (CIof q) (W_taken_to K (CIof q))) :=
  fnz_ok T.F_taken_to sc_taken_to (fun _ _ _ h => h.1) fun cdv A outer s H E hr => ⟨z_taken_to K (CIof q),
    szs_cons (sz_if (tz_cmp oz_gt (ez_var 2) (ez_ix (ez_var 0) (ez_var 1))) (szs_one (sz_ret (ez_op oz_cat (ez_sl (ez_var 0) oz_none (oz_some (ez_var 1))) (ez_lc (own := [("other", 3)]) sc_taken_to.nd (iz_list (ez_sl (ez_var 0) (oz_some (ez_var 1)) oz_none)) (blkOk_by (N := N_taken_to) (sc := defScope s_taken_to) (by decide +kernel)) (own_name (i := 3) (by decide)) (blkz (ref_gName) (fun _ _ _ _ _ => pg_name (i := 3) sc_taken_to.nd rfl (by first | exact Or.inl rfl | exact Or.inr rfl) (by first | exact Or.inl rfl | exact Or.inr rfl)) (fun _ _ _ _ _ => tsz_nil) (fun _ _ _ _ _ => ez_callB (cz_max2 rfl) T.n_max (by decide +kernel) (az_cons (ez_var 3) (az_cons (ez_var 2) (az_nil))))))))) (szs_nil))
    (szs_one (sz_ret (ez_op oz_cat (ez_lc (own := [("other", 3)]) sc_taken_to.nd (iz_list (ez_sl (ez_var 0) oz_none (oz_some (ez_op oz_add (ez_var 1) (ez_int))))) (blkOk_by (N := N_taken_to) (sc := defScope s_taken_to) (by decide +kernel)) (own_name (i := 3) (by decide)) (blkz (ref_gName) (fun _ _ _ _ _ => pg_name (i := 3) sc_taken_to.nd rfl (by first | exact Or.inl rfl | exact Or.inr rfl) (by first | exact Or.inl rfl | exact Or.inr rfl)) (fun _ _ _ _ _ => tsz_nil) (fun _ _ _ _ _ => ez_callB (cz_min2 rfl) T.n_min (by decide +kernel) (az_cons (ez_var 3) (az_cons (ez_var 2) (az_nil)))))) (ez_sl (ez_var 0) (oz_some (ez_op oz_add (ez_var 1) (ez_int))) oz_none)))),
    fun _ _ _ h => h.2⟩
theorem ok_dragged (T : Tx K mg q) : FnOk P w K mg base CX0 4 q.f_dragged q.d_dragged ["sizes", "leasts", "index", "number"] (SpZ K (CIof q) (W_dragged K (CIof q))) :=
  fnz_ok T.F_dragged sc_dragged (fun _ _ _ h => h.1) fun cdv A outer s H E hr => ⟨z_dragged K (CIof q),
    szs_cons (sz_expr (ez_calln (ok_check_sizes T) (hr.mono (by decide)) T.m_check_sizes T.F_check_sizes.kp T.b_check_sizes (az_cons (ez_var 0) (az_cons (ez_var 1) (az_nil)))))
    (szs_cons (sz_expr (ez_calln (ok_check_index T) (hr.mono (by decide)) T.m_check_index T.F_check_index.kp T.b_check_index (az_cons (ez_var 2) (az_cons (ez_op oz_sub (ez_callB cz_len T.n_len (by decide +kernel) (az_cons (ez_var 0) (az_nil))) (ez_int)) (az_nil)))))
    (szs_cons (sz_if (tz_not (tz_val (ez_calln (ok_is_int T) (hr.mono (by decide)) T.m_is_int T.F_is_int.kp T.b_is_int (az_cons (ez_var 3) (az_nil))))) (szs_one (sz_never)) (szs_nil))
    (szs_cons (sz_set (i := 4) sc_dragged.nd (ez_calln (ok_heights_of T) (hr.mono (by decide)) T.m_heights_of T.F_heights_of.kp T.b_heights_of (az_cons (ez_var 0) (az_cons (ez_var 1) (az_nil)))))
    (szs_cons (sz_set (i := 5) sc_dragged.nd (ez_calln (ok_limited T) (hr.mono (by decide)) T.m_limited T.F_limited.kp T.b_limited (az_cons (ez_op oz_add (ez_ix (ez_var 4) (ez_var 2)) (ez_var 3)) (az_cons (ez_int) (az_cons (ez_callB (cz_sum rfl) T.n_sum (by decide +kernel) (az_cons (ez_calln (ok_frees_of T) (hr.mono (by decide)) T.m_frees_of T.F_frees_of.kp T.b_frees_of (az_cons (ez_var 0) (az_cons (ez_var 1) (az_nil)))) (az_nil))) (az_nil))))))
    (szs_one (sz_ret (ez_calln (ok_sizes_with T) (hr.mono (by decide)) T.m_sizes_with T.F_sizes_with.kp T.b_sizes_with (az_cons (ez_calln (ok_taken_to T) (hr.mono (by decide)) T.m_taken_to T.F_taken_to.kp T.b_taken_to (az_cons (ez_var 4) (az_cons (ez_var 2) (az_cons (ez_var 5) (az_nil))))) (az_cons (ez_var 1) (az_cons (ez_callB (cz_sum rfl) T.n_sum (by decide +kernel) (az_cons (ez_var 0) (az_nil))) (az_nil))))))))))),
    fun _ _ _ h => h.2⟩
theorem ok__law_right (T : Tx K mg q) : FnOk P w K mg base CX0 7 q.f__law_right q.d__law_right ["fount", "sizes", "leasts", "drags_here", "many"] (SpZ K (CIof q) (W__law_right K (CIof q))) :=
  fnz_ok T.F__law_right sc__law_right (fun _ _ _ h => h.1) fun cdv A outer s H E hr => ⟨z__law_right K (CIof q),
    szs_cons (sz_set (i := 5) sc__law_right.nd (ez_callbC (ok_repeated T) (hr.mono (by decide)) T.m_repeated T.F_repeated.kp T.b_repeated (az_cons (ez_var 1) (az_cons (ez_var 2) (az_cons (ez_var 3) (az_cons (ez_var 4) (az_nil)))))))
    (szs_cons (sz_if (tz_cmp (oz_neD hr.units) (ez_callbC (ok_repeated T) (hr.mono (by decide)) T.m_repeated T.F_repeated.kp T.b_repeated (az_cons (ez_var 1) (az_cons (ez_var 2) (az_cons (ez_op oz_rep (ez_var 3) (ez_int)) (az_cons (ez_op oz_fdiv (ez_var 4) (ez_int)) (az_nil)))))) (ez_callbC (ok_repeated T) (hr.mono (by decide)) T.m_repeated T.F_repeated.kp T.b_repeated (az_cons (ez_var 1) (az_cons (ez_var 2) (az_cons (ez_var 3) (az_cons (ez_op oz_mul (ez_op oz_fdiv (ez_var 4) (ez_int)) (ez_int)) (az_nil))))))) (szs_one (sz_ret (ez_bl))) (szs_nil))
    (szs_cons (sz_set (i := 6) sc__law_right.nd (ez_op oz_add (ez_int) (ez_calln (ok__law_sip T) (hr.mono (by decide)) T.m__law_sip T.F__law_sip.kp T.b__law_sip (az_cons (ez_var 0) (az_cons (ez_op oz_pow (ez_int) (ez_int)) (az_nil))))))
    (szs_cons (sz_setLc (i := 7) (own := [("spot", 11), ("number_here", 12)]) sc__law_right.nd rfl rfl (sw_true rfl rfl rfl (by decide +kernel)) (iz_list (ez_var 3)) (blkOk_by (N := N__law_right) (sc := defScope s__law_right) (by decide +kernel)) (own_tup (owns_cons (i := 11) (by decide) (owns_cons (i := 12) (by decide) (owns_nil)))) (blkz (ref_gTup (ref_gCons ref_gName (ref_gCons ref_gName (ref_gNil)))) (fun _ _ _ _ _ => pg_tup rfl (pgs_cons (pg_name (i := 11) sc__law_right.nd rfl (by first | exact Or.inl rfl | exact Or.inr rfl) (by first | exact Or.inl rfl | exact Or.inr rfl)) (pgs_cons (pg_name (i := 12) sc__law_right.nd rfl (by first | exact Or.inl rfl | exact Or.inr rfl) (by first | exact Or.inl rfl | exact Or.inr rfl)) (pgs_nil)))) (fun _ _ _ _ _ => tsz_nil) (fun _ _ _ _ _ => ez_tup (az_cons (ez_var 11) (az_cons (ez_op oz_mul (ez_var 12) (ez_var 6)) (az_nil))))))
    (szs_cons (sz_setLc (i := 8) (own := [("row", 13)]) sc__law_right.nd rfl rfl (sw_true rfl rfl rfl (by decide +kernel)) (iz_tup (ez_tup (az_cons (ez_var 1) (az_cons (ez_var 2) (az_nil))))) (blkOk_by (N := N__law_right) (sc := defScope s__law_right) (by decide +kernel)) (own_name (i := 13) (by decide)) (blkz (ref_gName) (fun _ _ _ _ _ => pg_name (i := 13) sc__law_right.nd rfl (by first | exact Or.inl rfl | exact Or.inr rfl) (by first | exact Or.inl rfl | exact Or.inr rfl)) (fun _ _ _ _ _ => tsz_nil) (fun _ _ _ _ _ => ez_lendL (ez_lcC (own := [("size_here", 14)]) sc__law_right.nd (iz_list (ez_var 13)) (blkOk_in (N := N__law_right) (blkOk_by (N := N__law_right) (by decide +kernel))) (own_name (i := 14) (by decide)) (blkz (ref_gName) (fun _ _ _ _ _ => pg_name (i := 14) sc__law_right.nd rfl (by first | exact Or.inl rfl | exact Or.inr rfl) (by first | exact Or.inl rfl | exact Or.inr rfl)) (fun _ _ _ _ _ => tsz_nil) (fun _ _ _ _ _ => ez_op oz_mul (ez_var 14) (ez_var 6)))))))
    (szs_cons (sz_if (tz_cmp (oz_neD hr.units) (ez_callbC (ok_repeated T) (hr.mono (by decide)) T.m_repeated T.F_repeated.kp T.b_repeated (az_cons (ez_ix (ez_var 8) (ez_int)) (az_cons (ez_ix (ez_var 8) (ez_int)) (az_cons (ez_var 7) (az_cons (ez_var 4) (az_nil)))))) (ez_lendL (ez_lcC (own := [("size_here", 14)]) sc__law_right.nd (iz_list (ez_var 5)) (blkOk_by (N := N__law_right) (sc := defScope s__law_right) (by decide +kernel)) (own_name (i := 14) (by decide)) (blkz (ref_gName) (fun _ _ _ _ _ => pg_name (i := 14) sc__law_right.nd rfl (by first | exact Or.inl rfl | exact Or.inr rfl) (by first | exact Or.inl rfl | exact Or.inr rfl)) (fun _ _ _ _ _ => tsz_nil) (fun _ _ _ _ _ => ez_op oz_mul (ez_var 14) (ez_var 6)))))) (szs_one (sz_ret (ez_bl))) (szs_nil))
    (szs_cons (sz_setLc (i := 9) (own := [("spot", 11), ("number_here", 12)]) sc__law_right.nd rfl rfl (sw_true rfl rfl rfl (by decide +kernel)) (iz_list (ez_var 3)) (blkOk_by (N := N__law_right) (sc := defScope s__law_right) (by decide +kernel)) (own_tup (owns_cons (i := 11) (by decide) (owns_cons (i := 12) (by decide) (owns_nil)))) (blkz (ref_gTup (ref_gCons ref_gName (ref_gCons ref_gName (ref_gNil)))) (fun _ _ _ _ _ => pg_tup rfl (pgs_cons (pg_name (i := 11) sc__law_right.nd rfl (by first | exact Or.inl rfl | exact Or.inr rfl) (by first | exact Or.inl rfl | exact Or.inr rfl)) (pgs_cons (pg_name (i := 12) sc__law_right.nd rfl (by first | exact Or.inl rfl | exact Or.inr rfl) (by first | exact Or.inl rfl | exact Or.inr rfl)) (pgs_nil)))) (fun _ _ _ _ _ => tsz_nil) (fun _ _ _ _ _ => ez_tup (az_cons (ez_op oz_sub (ez_op oz_sub (ez_callB cz_len T.n_len (by decide +kernel) (az_cons (ez_var 1) (az_nil))) (ez_int)) (ez_var 11)) (az_cons (ez_op oz_sub (ez_int) (ez_var 12)) (az_nil))))))
    (szs_cons (sz_if ((wz_or (tz_cmp (oz_neD hr.units) (ez_callbC (ok_repeated T) (hr.mono (by decide)) T.m_repeated T.F_repeated.kp T.b_repeated (az_cons (ez_rev (ez_var 1)) (az_cons (ez_rev (ez_var 2)) (az_cons (ez_var 9) (az_cons (ez_var 4) (az_nil)))))) (ez_rev (ez_var 5))) (wz_or1 (tz_cmp (oz_neD hr.units) (ez_callB (cz_sum rfl) T.n_sum (by decide +kernel) (az_cons (ez_var 5) (az_nil))) (ez_callB (cz_sum rfl) T.n_sum (by decide +kernel) (az_cons (ez_var 1) (az_nil)))))).tz) (szs_one (sz_ret (ez_bl))) (szs_nil))
    (szs_cons (sz_if (tz_cmp (oz_neD hr.units) (ez_lendL (ez_lcC (own := [("size_here", 14), ("least_here", 15)]) sc__law_right.nd (iz_zip (az_cons (ez_var 5) (az_cons (ez_var 2) (az_nil))) T.n_zip) (blkOk_by (N := N__law_right) (sc := defScope s__law_right) (by decide +kernel)) (own_tup (owns_cons (i := 14) (by decide) (owns_cons (i := 15) (by decide) (owns_nil)))) (blkz (ref_gTup (ref_gCons ref_gName (ref_gCons ref_gName (ref_gNil)))) (fun _ _ _ _ _ => pg_tup rfl (pgs_cons (pg_name (i := 14) sc__law_right.nd rfl (by first | exact Or.inl rfl | exact Or.inr rfl) (by first | exact Or.inl rfl | exact Or.inr rfl)) (pgs_cons (pg_name (i := 15) sc__law_right.nd rfl (by first | exact Or.inl rfl | exact Or.inr rfl) (by first | exact Or.inl rfl | exact Or.inr rfl)) (pgs_nil)))) (fun _ _ _ _ _ => tsz_one (tz_cmp oz_lt (ez_var 14) (ez_var 15))) (fun _ _ _ _ _ => ez_int)))) (ez_lst (az_nil))) (szs_one (sz_ret (ez_bl))) (szs_nil))
    (szs_cons (sz_set (i := 10) sc__law_right.nd (ez_callTy cz_list T.n_list (by decide +kernel) (az_cons (ez_var 5) (az_nil))))
    (szs_cons (sz_for (iz_list (ez_var 3)) (gz_tup (gsz_cons (gz_name (i := 11) sc__law_right.nd rfl) (gsz_cons (gz_name (i := 12) sc__law_right.nd rfl) (gsz_nil)))) (szs_one (sz_set (i := 10) sc__law_right.nd (ez_callbC (ok_dragged T) (hr.mono (by decide)) T.m_dragged T.F_dragged.kp T.b_dragged (az_cons (ez_var 10) (az_cons (ez_var 2) (az_cons (ez_var 11) (az_cons (ez_var 12) (az_nil)))))))))
    (szs_cons (sz_if (tz_cmp (oz_neD hr.units) (ez_callbC (ok_repeated T) (hr.mono (by decide)) T.m_repeated T.F_repeated.kp T.b_repeated (az_cons (ez_var 1) (az_cons (ez_var 2) (az_cons (ez_var 3) (az_cons (ez_op oz_add (ez_var 4) (ez_int)) (az_nil)))))) (ez_var 10)) (szs_one (sz_ret (ez_bl))) (szs_nil))
    (szs_one (sz_ret (ez_or (ez_cmp (oz_neD hr.units) (ez_var 10) (ez_var 5)) (ez_one (ez_cmp (oz_eqD hr.units) (ez_callbC (ok_repeated T) (hr.mono (by decide)) T.m_repeated T.F_repeated.kp T.b_repeated (az_cons (ez_var 1) (az_cons (ez_var 2) (az_cons (ez_var 3) (az_cons (ez_op oz_pow (ez_int) (ez_int)) (az_nil)))))) (ez_var 5))))))))))))))))),
    fun _ _ _ h => h.2⟩
theorem ok__law_sums_right (T : Tx K mg q) : FnOk P w K mg base CX0 7 q.f__law_sums_right q.d__law_sums_right ["fount", "sizes", "leasts", "drags_here", "many"] (SpZ K (CIof q) (W__law_sums_right K (CIof q))) :=
  fnz_ok T.F__law_sums_right sc__law_sums_right (fun _ _ _ h => h.1) fun cdv A outer s H E hr => ⟨z__law_sums_right K (CIof q),
    szs_cons (sz_set (i := 5) sc__law_sums_right.nd (ez_lst (az_nil)))
    (szs_cons (sz_for (iz_list (ez_var 3)) (gz_tup (gsz_cons (gz_name (i := 6) sc__law_sums_right.nd rfl) (gsz_cons (gz_name (i := 7) sc__law_sums_right.nd rfl) (gsz_nil)))) (szs_cons (sz_set (i := 8) sc__law_sums_right.nd (ez_op oz_mul (ez_calln (ok__law_sip T) (hr.mono (by decide)) T.m__law_sip T.F__law_sip.kp T.b__law_sip (az_cons (ez_var 0) (az_cons (ez_op oz_add (ez_callB cz_abs T.n_abs (by decide +kernel) (az_cons (ez_var 7) (az_nil))) (ez_int)) (az_nil)))) (ez_if (tz_cmp oz_gt (ez_var 7) (ez_int)) (ez_int) (ez_neg (ez_int)))))
    (szs_one (sz_set (i := 5) sc__law_sums_right.nd (ez_op oz_cat (ez_var 5) (ez_lst (az_cons (ez_tup (az_cons (ez_var 6) (az_cons (ez_var 8) (az_nil)))) (az_cons (ez_tup (az_cons (ez_var 6) (az_cons (ez_op oz_sub (ez_var 7) (ez_var 8)) (az_nil)))) (az_nil)))))))))
    (szs_one (sz_ret (ez_cmp (oz_eqD hr.units) (ez_callbC (ok_repeated T) (hr.mono (by decide)) T.m_repeated T.F_repeated.kp T.b_repeated (az_cons (ez_var 1) (az_cons (ez_var 2) (az_cons (ez_var 5) (az_cons (ez_var 4) (az_nil)))))) (ez_callbC (ok_repeated T) (hr.mono (by decide)) T.m_repeated T.F_repeated.kp T.b_repeated (az_cons (ez_var 1) (az_cons (ez_var 2) (az_cons (ez_var 3) (az_cons (ez_var 4) (az_nil)))))))))),
    fun _ _ _ h => h.2⟩
theorem ok_law (T : Tx K mg q) : FnOk P w K mg base CX0 8 q.f_law q.d_law ["script"] (SpZ K (CIof q) (W_law K (CIof q))) :=
  fnz_ok T.F_law sc_law (fun _ _ _ h => h.1) fun cdv A outer s H E hr => ⟨z_law K (CIof q),
    szs_cons (sz_for (iz_r1 (az_cons (ez_callB (cz_max2 rfl) T.n_max (by decide +kernel) (az_cons (ez_int) (az_cons (ez_callB (cz_min2 rfl) T.n_min (by decide +kernel) (az_cons (ez_int) (az_cons (ez_callB cz_len T.n_len (by decide +kernel) (az_cons (ez_var 0) (az_nil))) (az_nil)))) (az_nil)))) (az_nil)) T.n_range) (gz_name (i := 1) sc_law.nd rfl) (szs_cons (sz_set (i := 2) sc_law.nd (ez_calln (ok__law_fount T) (hr.mono (by decide)) T.m__law_fount T.F__law_fount.kp T.b__law_fount (az_cons (ez_var 0) (az_cons (ez_var 1) (az_nil)))))
    (szs_one (sz_for (iz_list (ez_lst (az_cons (ez_tup (az_cons (ez_int) (az_cons (ez_int) (az_nil)))) (az_cons (ez_tup (az_cons (ez_ix (ez_lst (az_cons (ez_int) (az_cons (ez_int) (az_nil)))) (ez_callB (cz_min2 rfl) T.n_min (by decide +kernel) (az_cons (ez_var 1) (az_cons (ez_int) (az_nil))))) (az_cons (ez_op oz_pow (ez_int) (ez_int)) (az_nil)))) (az_nil))))) (gz_tup (gsz_cons (gz_name (i := 3) sc_law.nd rfl) (gsz_cons (gz_name (i := 4) sc_law.nd rfl) (gsz_nil)))) (szs_cons (sz_set (i := 5) sc_law.nd (ez_op oz_add (ez_int) (ez_calln (ok__law_sip T) (hr.mono (by decide)) T.m__law_sip T.F__law_sip.kp T.b__law_sip (az_cons (ez_var 2) (az_cons (ez_op oz_sub (ez_var 3) (ez_int)) (az_nil))))))
    (szs_cons (sz_asg (ez_calln (ok__law_sizes T) (hr.mono (by decide)) T.m__law_sizes T.F__law_sizes.kp T.b__law_sizes (az_cons (ez_var 2) (az_cons (ez_var 5) (az_cons (ez_var 4) (az_nil))))) (gz_tup (gsz_cons (gz_name (i := 6) sc_law.nd rfl) (gsz_cons (gz_name (i := 7) sc_law.nd rfl) (gsz_nil)))))
    (szs_cons (sz_set (i := 8) sc_law.nd (ez_calln (fn_frzM (ok__law_drawn T)) (hr.mono (by decide)) T.m__law_drawn T.F__law_drawn.kp T.b__law_drawn (az_cons (ez_var 2) (az_cons (ez_var 5) (az_cons (ez_var 4) (az_nil))))))
    (szs_cons (sz_set (i := 9) sc_law.nd (ez_ix (ez_lst (az_cons (ez_calln (ok__law_sip T) (hr.mono (by decide)) T.m__law_sip T.F__law_sip.kp T.b__law_sip (az_cons (ez_var 2) (az_cons (ez_int) (az_nil)))) (az_cons (ez_calln (ok__law_sip T) (hr.mono (by decide)) T.m__law_sip T.F__law_sip.kp T.b__law_sip (az_cons (ez_var 2) (az_cons (ez_op oz_pow (ez_int) (ez_int)) (az_nil)))) (az_nil)))) (ez_calln (ok__law_sip T) (hr.mono (by decide)) T.m__law_sip T.F__law_sip.kp T.b__law_sip (az_cons (ez_var 2) (az_cons (ez_int) (az_nil))))))
    (szs_cons (sz_if (tz_not (tz_val (ez_calln (ok__law_right T) (hr.mono (by decide)) T.m__law_right T.F__law_right.kp T.b__law_right (az_cons (ez_var 2) (az_cons (ez_var 6) (az_cons (ez_var 7) (az_cons (ez_var 8) (az_cons (ez_var 9) (az_nil))))))))) (szs_one (sz_ret (ez_bl))) (szs_nil))
    (szs_cons (sz_if (tz_not (tz_val (ez_calln (ok__law_sums_right T) (hr.mono (by decide)) T.m__law_sums_right T.F__law_sums_right.kp T.b__law_sums_right (az_cons (ez_var 2) (az_cons (ez_var 6) (az_cons (ez_var 7) (az_cons (ez_var 8) (az_cons (ez_var 9) (az_nil))))))))) (szs_one (sz_ret (ez_bl))) (szs_nil))
    (szs_cons (sz_asg (ez_ix (ez_var 8) (ez_int)) (gz_tup (gsz_cons (gz_name (i := 10) sc_law.nd rfl) (gsz_cons (gz_name (i := 11) sc_law.nd rfl) (gsz_nil)))))
    (szs_one (sz_if (tz_cmp (oz_neD hr.units) (ez_callbC (ok_repeated T) (hr.mono (by decide)) T.m_repeated T.F_repeated.kp T.b_repeated (az_cons (ez_var 6) (az_cons (ez_var 7) (az_cons (ez_lst (az_cons (ez_tup (az_cons (ez_var 10) (az_cons (ez_var 11) (az_nil)))) (az_nil))) (az_cons (ez_int) (az_nil)))))) (ez_callbC (ok_dragged T) (hr.mono (by decide)) T.m_dragged T.F_dragged.kp T.b_dragged (az_cons (ez_var 6) (az_cons (ez_var 7) (az_cons (ez_var 10) (az_cons (ez_var 11) (az_nil))))))) (szs_one (sz_ret (ez_bl))) (szs_nil))))))))))))))
    (szs_one (sz_ret (ez_bl))),
    fun _ _ _ h => h.2⟩
end
theorem all_mk {l : PySem.W.OpenLaw} {w : World} {K : PySem.W.Frag} {h : Heap} {mg : Str → Option Value} {fa : Addr} (X : K.In h) (G : h.Ns mainGlobals mg) (hfa : mg "law" = some (.ref fa))
    {f__law_fount : Addr} {od__law_fount : Option Addr} {an__law_fount : Option Addr} {sl__law_fount : Array (Option Value)} {oc__law_fount : Value} {kV__law_fount : Value} {dc__law_fount : Value} {pm__law_fount : Value} {cd__law_fount : Value} {ct__law_fount : Value} {f__law_sip : Addr} {od__law_sip : Option Addr} {an__law_sip : Option Addr} {sl__law_sip : Array (Option Value)} {oc__law_sip : Value} {kV__law_sip : Value} {dc__law_sip : Value} {pm__law_sip : Value} {cd__law_sip : Value} {ct__law_sip : Value} {f__law_sizes : Addr} {od__law_sizes : Option Addr} {an__law_sizes : Option Addr} {sl__law_sizes : Array (Option Value)} {oc__law_sizes : Value} {kV__law_sizes : Value} {dc__law_sizes : Value} {pm__law_sizes : Value} {cd__law_sizes : Value} {ct__law_sizes : Value} {f__law_number : Addr} {od__law_number : Option Addr} {an__law_number : Option Addr} {sl__law_number : Array (Option Value)} {oc__law_number : Value} {kV__law_number : Value} {dc__law_number : Value} {pm__law_number : Value} {cd__law_number : Value} {ct__law_number : Value} {f__law_drawn : Addr} {od__law_drawn : Option Addr} {an__law_drawn : Option Addr} {sl__law_drawn : Array (Option Value)} {oc__law_drawn : Value} {kV__law_drawn : Value} {dc__law_drawn : Value} {pm__law_drawn : Value} {cd__law_drawn : Value} {ct__law_drawn : Value} {f_is_int : Addr} {od_is_int : Option Addr} {an_is_int : Option Addr} {sl_is_int : Array (Option Value)} {oc_is_int : Value} {kV_is_int : Value} {dc_is_int : Value} {pm_is_int : Value} {cd_is_int : Value} {ct_is_int : Value} {f_are_sizes : Addr} {od_are_sizes : Option Addr} {an_are_sizes : Option Addr} {sl_are_sizes : Array (Option Value)} {oc_are_sizes : Value} {kV_are_sizes : Value} {dc_are_sizes : Value} {pm_are_sizes : Value} {cd_are_sizes : Value} {ct_are_sizes : Value} {f_frees_of : Addr} {od_frees_of : Option Addr} {an_frees_of : Option Addr} {sl_frees_of : Array (Option Value)} {oc_frees_of : Value} {kV_frees_of : Value} {dc_frees_of : Value} {pm_frees_of : Value} {cd_frees_of : Value} {ct_frees_of : Value} {f_check_sizes : Addr} {od_check_sizes : Option Addr} {an_check_sizes : Option Addr} {sl_check_sizes : Array (Option Value)} {oc_check_sizes : Value} {kV_check_sizes : Value} {dc_check_sizes : Value} {pm_check_sizes : Value} {cd_check_sizes : Value} {ct_check_sizes : Value} {f_is_drag : Addr} {od_is_drag : Option Addr} {an_is_drag : Option Addr} {sl_is_drag : Array (Option Value)} {oc_is_drag : Value} {kV_is_drag : Value} {dc_is_drag : Value} {pm_is_drag : Value} {cd_is_drag : Value} {ct_is_drag : Value} {f_check_drags : Addr} {od_check_drags : Option Addr} {an_check_drags : Option Addr} {sl_check_drags : Array (Option Value)} {oc_check_drags : Value} {kV_check_drags : Value} {dc_check_drags : Value} {pm_check_drags : Value} {cd_check_drags : Value} {ct_check_drags : Value} {f_have_one_divider : Addr} {od_have_one_divider : Option Addr} {an_have_one_divider : Option Addr} {sl_have_one_divider : Array (Option Value)} {oc_have_one_divider : Value} {kV_have_one_divider : Value} {dc_have_one_divider : Value} {pm_have_one_divider : Value} {cd_have_one_divider : Value} {ct_have_one_divider : Value} {f_check_directions : Addr} {od_check_directions : Option Addr} {an_check_directions : Option Addr} {sl_check_directions : Array (Option Value)} {oc_check_directions : Value} {kV_check_directions : Value} {dc_check_directions : Value} {pm_check_directions : Value} {cd_check_directions : Value} {ct_check_directions : Value} {f_limited : Addr} {od_limited : Option Addr} {an_limited : Option Addr} {sl_limited : Array (Option Value)} {oc_limited : Value} {kV_limited : Value} {dc_limited : Value} {pm_limited : Value} {cd_limited : Value} {ct_limited : Value} {f_path_of : Addr} {od_path_of : Option Addr} {an_path_of : Option Addr} {sl_path_of : Array (Option Value)} {oc_path_of : Value} {kV_path_of : Value} {dc_path_of : Value} {pm_path_of : Value} {cd_path_of : Value} {ct_path_of : Value} {f_swung : Addr} {od_swung : Option Addr} {an_swung : Option Addr} {sl_swung : Array (Option Value)} {oc_swung : Value} {kV_swung : Value} {dc_swung : Value} {pm_swung : Value} {cd_swung : Value} {ct_swung : Value} {f_seen_from_behind : Addr} {od_seen_from_behind : Option Addr} {an_seen_from_behind : Option Addr} {sl_seen_from_behind : Array (Option Value)} {oc_seen_from_behind : Value} {kV_seen_from_behind : Value} {dc_seen_from_behind : Value} {pm_seen_from_behind : Value} {cd_seen_from_behind : Value} {ct_seen_from_behind : Value} {f_rows_of : Addr} {od_rows_of : Option Addr} {an_rows_of : Option Addr} {sl_rows_of : Array (Option Value)} {oc_rows_of : Value} {kV_rows_of : Value} {dc_rows_of : Value} {pm_rows_of : Value} {cd_rows_of : Value} {ct_rows_of : Value} {f_one_behind_other : Addr} {od_one_behind_other : Option Addr} {an_one_behind_other : Option Addr} {sl_one_behind_other : Array (Option Value)} {oc_one_behind_other : Value} {kV_one_behind_other : Value} {dc_one_behind_other : Value} {pm_one_behind_other : Value} {cd_one_behind_other : Value} {ct_one_behind_other : Value} {f_many_times : Addr} {od_many_times : Option Addr} {an_many_times : Option Addr} {sl_many_times : Array (Option Value)} {oc_many_times : Value} {kV_many_times : Value} {dc_many_times : Value} {pm_many_times : Value} {cd_many_times : Value} {ct_many_times : Value} {f_lifted_by : Addr} {od_lifted_by : Option Addr} {an_lifted_by : Option Addr} {sl_lifted_by : Array (Option Value)} {oc_lifted_by : Value} {kV_lifted_by : Value} {dc_lifted_by : Value} {pm_lifted_by : Value} {cd_lifted_by : Value} {ct_lifted_by : Value} {f_lowered_by : Addr} {od_lowered_by : Option Addr} {an_lowered_by : Option Addr} {sl_lowered_by : Array (Option Value)} {oc_lowered_by : Value} {kV_lowered_by : Value} {dc_lowered_by : Value} {pm_lowered_by : Value} {cd_lowered_by : Value} {ct_lowered_by : Value} {f_repeated_heights : Addr} {od_repeated_heights : Option Addr} {an_repeated_heights : Option Addr} {sl_repeated_heights : Array (Option Value)} {oc_repeated_heights : Value} {kV_repeated_heights : Value} {dc_repeated_heights : Value} {pm_repeated_heights : Value} {cd_repeated_heights : Value} {ct_repeated_heights : Value} {f_heights_of : Addr} {od_heights_of : Option Addr} {an_heights_of : Option Addr} {sl_heights_of : Array (Option Value)} {oc_heights_of : Value} {kV_heights_of : Value} {dc_heights_of : Value} {pm_heights_of : Value} {cd_heights_of : Value} {ct_heights_of : Value} {f_sizes_with : Addr} {od_sizes_with : Option Addr} {an_sizes_with : Option Addr} {sl_sizes_with : Array (Option Value)} {oc_sizes_with : Value} {kV_sizes_with : Value} {dc_sizes_with : Value} {pm_sizes_with : Value} {cd_sizes_with : Value} {ct_sizes_with : Value} {f_repeated : Addr} {od_repeated : Option Addr} {an_repeated : Option Addr} {sl_repeated : Array (Option Value)} {oc_repeated : Value} {kV_repeated : Value} {dc_repeated : Value} {pm_repeated : Value} {cd_repeated : Value} {ct_repeated : Value} {f_check_index : Addr} {od_check_index : Option Addr} {an_check_index : Option Addr} {sl_check_index : Array (Option Value)} {oc_check_index : Value} {kV_check_index : Value} {dc_check_index : Value} {pm_check_index : Value} {cd_check_index : Value} {ct_check_index : Value} {f_taken_to : Addr} {od_taken_to : Option Addr} {an_taken_to : Option Addr} {sl_taken_to : Array (Option Value)} {oc_taken_to : Value} {kV_taken_to : Value} {dc_taken_to : Value} {pm_taken_to : Value} {cd_taken_to : Value} {ct_taken_to : Value} {f_dragged : Addr} {od_dragged : Option Addr} {an_dragged : Option Addr} {sl_dragged : Array (Option Value)} {oc_dragged : Value} {kV_dragged : Value} {dc_dragged : Value} {pm_dragged : Value} {cd_dragged : Value} {ct_dragged : Value} {f__law_right : Addr} {od__law_right : Option Addr} {an__law_right : Option Addr} {sl__law_right : Array (Option Value)} {oc__law_right : Value} {kV__law_right : Value} {dc__law_right : Value} {pm__law_right : Value} {cd__law_right : Value} {ct__law_right : Value} {f__law_sums_right : Addr} {od__law_sums_right : Option Addr} {an__law_sums_right : Option Addr} {sl__law_sums_right : Array (Option Value)} {oc__law_sums_right : Value} {kV__law_sums_right : Value} {dc__law_sums_right : Value} {pm__law_sums_right : Value} {cd__law_sums_right : Value} {ct__law_sums_right : Value} {f_law : Addr} {od_law : Option Addr} {an_law : Option Addr} {sl_law : Array (Option Value)} {oc_law : Value} {kV_law : Value} {dc_law : Value} {pm_law : Value} {cd_law : Value} {ct_law : Value} {tk_MOST_BOXES : Tok} {tk_MOST_DRAGS : Tok} {tk_MOST_REPEATED : Tok} {tk_MOST_TIMES : Tok}
    (a__law_fount : PySem.W.nsIn K mainGlobals "_law_fount" = some (some (.ref f__law_fount)))
    (l__law_fount : K.lookup f__law_fount = some ⟨oc__law_fount, od__law_fount, .func (PySem.W.fnOf "_law_fount" "_law_fount" (defArgs s__law_fount) (defBody s__law_fount) (defScope s__law_fount) .none kV__law_fount dc__law_fount pm__law_fount an__law_fount cd__law_fount ct__law_fount), sl__law_fount⟩)
    (e__law_fount : PySem.W.codeIn K cd__law_fount "_law_fount" = true)
    (k__law_fount : PySem.W.keepIn K (.ref f__law_fount) = true)
    (a__law_sip : PySem.W.nsIn K mainGlobals "_law_sip" = some (some (.ref f__law_sip)))
    (l__law_sip : K.lookup f__law_sip = some ⟨oc__law_sip, od__law_sip, .func (PySem.W.fnOf "_law_sip" "_law_sip" (defArgs s__law_sip) (defBody s__law_sip) (defScope s__law_sip) .none kV__law_sip dc__law_sip pm__law_sip an__law_sip cd__law_sip ct__law_sip), sl__law_sip⟩)
    (e__law_sip : PySem.W.codeIn K cd__law_sip "_law_sip" = true)
    (k__law_sip : PySem.W.keepIn K (.ref f__law_sip) = true)
    (a__law_sizes : PySem.W.nsIn K mainGlobals "_law_sizes" = some (some (.ref f__law_sizes)))
    (l__law_sizes : K.lookup f__law_sizes = some ⟨oc__law_sizes, od__law_sizes, .func (PySem.W.fnOf "_law_sizes" "_law_sizes" (defArgs s__law_sizes) (defBody s__law_sizes) (defScope s__law_sizes) .none kV__law_sizes dc__law_sizes pm__law_sizes an__law_sizes cd__law_sizes ct__law_sizes), sl__law_sizes⟩)
    (e__law_sizes : PySem.W.codeIn K cd__law_sizes "_law_sizes" = true)
    (k__law_sizes : PySem.W.keepIn K (.ref f__law_sizes) = true)
    (a__law_number : PySem.W.nsIn K mainGlobals "_law_number" = some (some (.ref f__law_number)))
    (l__law_number : K.lookup f__law_number = some ⟨oc__law_number, od__law_number, .func (PySem.W.fnOf "_law_number" "_law_number" (defArgs s__law_number) (defBody s__law_number) (defScope s__law_number) .none kV__law_number dc__law_number pm__law_number an__law_number cd__law_number ct__law_number), sl__law_number⟩)
    (e__law_number : PySem.W.codeIn K cd__law_number "_law_number" = true)
    (k__law_number : PySem.W.keepIn K (.ref f__law_number) = true)
    (a__law_drawn : PySem.W.nsIn K mainGlobals "_law_drawn" = some (some (.ref f__law_drawn)))
    (l__law_drawn : K.lookup f__law_drawn = some ⟨oc__law_drawn, od__law_drawn, .func (PySem.W.fnOf "_law_drawn" "_law_drawn" (defArgs s__law_drawn) (defBody s__law_drawn) (defScope s__law_drawn) .none kV__law_drawn dc__law_drawn pm__law_drawn an__law_drawn cd__law_drawn ct__law_drawn), sl__law_drawn⟩)
    (e__law_drawn : PySem.W.codeIn K cd__law_drawn "_law_drawn" = true)
    (k__law_drawn : PySem.W.keepIn K (.ref f__law_drawn) = true)
    (a_is_int : PySem.W.nsIn K mainGlobals "is_int" = some (some (.ref f_is_int)))
    (l_is_int : K.lookup f_is_int = some ⟨oc_is_int, od_is_int, .func (PySem.W.fnOf "is_int" "is_int" (defArgs s_is_int) (defBody s_is_int) (defScope s_is_int) .none kV_is_int dc_is_int pm_is_int an_is_int cd_is_int ct_is_int), sl_is_int⟩)
    (e_is_int : PySem.W.codeIn K cd_is_int "is_int" = true)
    (k_is_int : PySem.W.keepIn K (.ref f_is_int) = true)
    (a_are_sizes : PySem.W.nsIn K mainGlobals "are_sizes" = some (some (.ref f_are_sizes)))
    (l_are_sizes : K.lookup f_are_sizes = some ⟨oc_are_sizes, od_are_sizes, .func (PySem.W.fnOf "are_sizes" "are_sizes" (defArgs s_are_sizes) (defBody s_are_sizes) (defScope s_are_sizes) .none kV_are_sizes dc_are_sizes pm_are_sizes an_are_sizes cd_are_sizes ct_are_sizes), sl_are_sizes⟩)
    (e_are_sizes : PySem.W.codeIn K cd_are_sizes "are_sizes" = true)
    (k_are_sizes : PySem.W.keepIn K (.ref f_are_sizes) = true)
    (a_frees_of : PySem.W.nsIn K mainGlobals "frees_of" = some (some (.ref f_frees_of)))
    (l_frees_of : K.lookup f_frees_of = some ⟨oc_frees_of, od_frees_of, .func (PySem.W.fnOf "frees_of" "frees_of" (defArgs s_frees_of) (defBody s_frees_of) (defScope s_frees_of) .none kV_frees_of dc_frees_of pm_frees_of an_frees_of cd_frees_of ct_frees_of), sl_frees_of⟩)
    (e_frees_of : PySem.W.codeIn K cd_frees_of "frees_of" = true)
    (k_frees_of : PySem.W.keepIn K (.ref f_frees_of) = true)
    (a_check_sizes : PySem.W.nsIn K mainGlobals "check_sizes" = some (some (.ref f_check_sizes)))
    (l_check_sizes : K.lookup f_check_sizes = some ⟨oc_check_sizes, od_check_sizes, .func (PySem.W.fnOf "check_sizes" "check_sizes" (defArgs s_check_sizes) (defBody s_check_sizes) (defScope s_check_sizes) .none kV_check_sizes dc_check_sizes pm_check_sizes an_check_sizes cd_check_sizes ct_check_sizes), sl_check_sizes⟩)
    (e_check_sizes : PySem.W.codeIn K cd_check_sizes "check_sizes" = true)
    (k_check_sizes : PySem.W.keepIn K (.ref f_check_sizes) = true)
    (a_is_drag : PySem.W.nsIn K mainGlobals "is_drag" = some (some (.ref f_is_drag)))
    (l_is_drag : K.lookup f_is_drag = some ⟨oc_is_drag, od_is_drag, .func (PySem.W.fnOf "is_drag" "is_drag" (defArgs s_is_drag) (defBody s_is_drag) (defScope s_is_drag) .none kV_is_drag dc_is_drag pm_is_drag an_is_drag cd_is_drag ct_is_drag), sl_is_drag⟩)
    (e_is_drag : PySem.W.codeIn K cd_is_drag "is_drag" = true)
    (k_is_drag : PySem.W.keepIn K (.ref f_is_drag) = true)
    (a_check_drags : PySem.W.nsIn K mainGlobals "check_drags" = some (some (.ref f_check_drags)))
    (l_check_drags : K.lookup f_check_drags = some ⟨oc_check_drags, od_check_drags, .func (PySem.W.fnOf "check_drags" "check_drags" (defArgs s_check_drags) (defBody s_check_drags) (defScope s_check_drags) .none kV_check_drags dc_check_drags pm_check_drags an_check_drags cd_check_drags ct_check_drags), sl_check_drags⟩)
    (e_check_drags : PySem.W.codeIn K cd_check_drags "check_drags" = true)
    (k_check_drags : PySem.W.keepIn K (.ref f_check_drags) = true)
    (a_have_one_divider : PySem.W.nsIn K mainGlobals "have_one_divider" = some (some (.ref f_have_one_divider)))
    (l_have_one_divider : K.lookup f_have_one_divider = some ⟨oc_have_one_divider, od_have_one_divider, .func (PySem.W.fnOf "have_one_divider" "have_one_divider" (defArgs s_have_one_divider) (defBody s_have_one_divider) (defScope s_have_one_divider) .none kV_have_one_divider dc_have_one_divider pm_have_one_divider an_have_one_divider cd_have_one_divider ct_have_one_divider), sl_have_one_divider⟩)
    (e_have_one_divider : PySem.W.codeIn K cd_have_one_divider "have_one_divider" = true)
    (k_have_one_divider : PySem.W.keepIn K (.ref f_have_one_divider) = true)
    (a_check_directions : PySem.W.nsIn K mainGlobals "check_directions" = some (some (.ref f_check_directions)))
    (l_check_directions : K.lookup f_check_directions = some ⟨oc_check_directions, od_check_directions, .func (PySem.W.fnOf "check_directions" "check_directions" (defArgs s_check_directions) (defBody s_check_directions) (defScope s_check_directions) .none kV_check_directions dc_check_directions pm_check_directions an_check_directions cd_check_directions ct_check_directions), sl_check_directions⟩)
    (e_check_directions : PySem.W.codeIn K cd_check_directions "check_directions" = true)
    (k_check_directions : PySem.W.keepIn K (.ref f_check_directions) = true)
    (a_limited : PySem.W.nsIn K mainGlobals "limited" = some (some (.ref f_limited)))
    (l_limited : K.lookup f_limited = some ⟨oc_limited, od_limited, .func (PySem.W.fnOf "limited" "limited" (defArgs s_limited) (defBody s_limited) (defScope s_limited) .none kV_limited dc_limited pm_limited an_limited cd_limited ct_limited), sl_limited⟩)
    (e_limited : PySem.W.codeIn K cd_limited "limited" = true)
    (k_limited : PySem.W.keepIn K (.ref f_limited) = true)
    (a_path_of : PySem.W.nsIn K mainGlobals "path_of" = some (some (.ref f_path_of)))
    (l_path_of : K.lookup f_path_of = some ⟨oc_path_of, od_path_of, .func (PySem.W.fnOf "path_of" "path_of" (defArgs s_path_of) (defBody s_path_of) (defScope s_path_of) .none kV_path_of dc_path_of pm_path_of an_path_of cd_path_of ct_path_of), sl_path_of⟩)
    (e_path_of : PySem.W.codeIn K cd_path_of "path_of" = true)
    (k_path_of : PySem.W.keepIn K (.ref f_path_of) = true)
    (a_swung : PySem.W.nsIn K mainGlobals "swung" = some (some (.ref f_swung)))
    (l_swung : K.lookup f_swung = some ⟨oc_swung, od_swung, .func (PySem.W.fnOf "swung" "swung" (defArgs s_swung) (defBody s_swung) (defScope s_swung) .none kV_swung dc_swung pm_swung an_swung cd_swung ct_swung), sl_swung⟩)
    (e_swung : PySem.W.codeIn K cd_swung "swung" = true)
    (k_swung : PySem.W.keepIn K (.ref f_swung) = true)
    (a_seen_from_behind : PySem.W.nsIn K mainGlobals "seen_from_behind" = some (some (.ref f_seen_from_behind)))
    (l_seen_from_behind : K.lookup f_seen_from_behind = some ⟨oc_seen_from_behind, od_seen_from_behind, .func (PySem.W.fnOf "seen_from_behind" "seen_from_behind" (defArgs s_seen_from_behind) (defBody s_seen_from_behind) (defScope s_seen_from_behind) .none kV_seen_from_behind dc_seen_from_behind pm_seen_from_behind an_seen_from_behind cd_seen_from_behind ct_seen_from_behind), sl_seen_from_behind⟩)
    (e_seen_from_behind : PySem.W.codeIn K cd_seen_from_behind "seen_from_behind" = true)
    (k_seen_from_behind : PySem.W.keepIn K (.ref f_seen_from_behind) = true)
    (a_rows_of : PySem.W.nsIn K mainGlobals "rows_of" = some (some (.ref f_rows_of)))
    (l_rows_of : K.lookup f_rows_of = some ⟨oc_rows_of, od_rows_of, .func (PySem.W.fnOf "rows_of" "rows_of" (defArgs s_rows_of) (defBody s_rows_of) (defScope s_rows_of) .none kV_rows_of dc_rows_of pm_rows_of an_rows_of cd_rows_of ct_rows_of), sl_rows_of⟩)
    (e_rows_of : PySem.W.codeIn K cd_rows_of "rows_of" = true)
    (k_rows_of : PySem.W.keepIn K (.ref f_rows_of) = true)
    (a_one_behind_other : PySem.W.nsIn K mainGlobals "one_behind_other" = some (some (.ref f_one_behind_other)))
    (l_one_behind_other : K.lookup f_one_behind_other = some ⟨oc_one_behind_other, od_one_behind_other, .func (PySem.W.fnOf "one_behind_other" "one_behind_other" (defArgs s_one_behind_other) (defBody s_one_behind_other) (defScope s_one_behind_other) .none kV_one_behind_other dc_one_behind_other pm_one_behind_other an_one_behind_other cd_one_behind_other ct_one_behind_other), sl_one_behind_other⟩)
    (e_one_behind_other : PySem.W.codeIn K cd_one_behind_other "one_behind_other" = true)
    (k_one_behind_other : PySem.W.keepIn K (.ref f_one_behind_other) = true)
    (a_many_times : PySem.W.nsIn K mainGlobals "many_times" = some (some (.ref f_many_times)))
    (l_many_times : K.lookup f_many_times = some ⟨oc_many_times, od_many_times, .func (PySem.W.fnOf "many_times" "many_times" (defArgs s_many_times) (defBody s_many_times) (defScope s_many_times) .none kV_many_times dc_many_times pm_many_times an_many_times cd_many_times ct_many_times), sl_many_times⟩)
    (e_many_times : PySem.W.codeIn K cd_many_times "many_times" = true)
    (k_many_times : PySem.W.keepIn K (.ref f_many_times) = true)
    (a_lifted_by : PySem.W.nsIn K mainGlobals "lifted_by" = some (some (.ref f_lifted_by)))
    (l_lifted_by : K.lookup f_lifted_by = some ⟨oc_lifted_by, od_lifted_by, .func (PySem.W.fnOf "lifted_by" "lifted_by" (defArgs s_lifted_by) (defBody s_lifted_by) (defScope s_lifted_by) .none kV_lifted_by dc_lifted_by pm_lifted_by an_lifted_by cd_lifted_by ct_lifted_by), sl_lifted_by⟩)
    (e_lifted_by : PySem.W.codeIn K cd_lifted_by "lifted_by" = true)
    (k_lifted_by : PySem.W.keepIn K (.ref f_lifted_by) = true)
    (a_lowered_by : PySem.W.nsIn K mainGlobals "lowered_by" = some (some (.ref f_lowered_by)))
    (l_lowered_by : K.lookup f_lowered_by = some ⟨oc_lowered_by, od_lowered_by, .func (PySem.W.fnOf "lowered_by" "lowered_by" (defArgs s_lowered_by) (defBody s_lowered_by) (defScope s_lowered_by) .none kV_lowered_by dc_lowered_by pm_lowered_by an_lowered_by cd_lowered_by ct_lowered_by), sl_lowered_by⟩)
    (e_lowered_by : PySem.W.codeIn K cd_lowered_by "lowered_by" = true)
    (k_lowered_by : PySem.W.keepIn K (.ref f_lowered_by) = true)
    (a_repeated_heights : PySem.W.nsIn K mainGlobals "repeated_heights" = some (some (.ref f_repeated_heights)))
    (l_repeated_heights : K.lookup f_repeated_heights = some ⟨oc_repeated_heights, od_repeated_heights, .func (PySem.W.fnOf "repeated_heights" "repeated_heights" (defArgs s_repeated_heights) (defBody s_repeated_heights) (defScope s_repeated_heights) .none kV_repeated_heights dc_repeated_heights pm_repeated_heights an_repeated_heights cd_repeated_heights ct_repeated_heights), sl_repeated_heights⟩)
    (e_repeated_heights : PySem.W.codeIn K cd_repeated_heights "repeated_heights" = true)
    (k_repeated_heights : PySem.W.keepIn K (.ref f_repeated_heights) = true)
    (a_heights_of : PySem.W.nsIn K mainGlobals "heights_of" = some (some (.ref f_heights_of)))
    (l_heights_of : K.lookup f_heights_of = some ⟨oc_heights_of, od_heights_of, .func (PySem.W.fnOf "heights_of" "heights_of" (defArgs s_heights_of) (defBody s_heights_of) (defScope s_heights_of) .none kV_heights_of dc_heights_of pm_heights_of an_heights_of cd_heights_of ct_heights_of), sl_heights_of⟩)
    (e_heights_of : PySem.W.codeIn K cd_heights_of "heights_of" = true)
    (k_heights_of : PySem.W.keepIn K (.ref f_heights_of) = true)
    (a_sizes_with : PySem.W.nsIn K mainGlobals "sizes_with" = some (some (.ref f_sizes_with)))
    (l_sizes_with : K.lookup f_sizes_with = some ⟨oc_sizes_with, od_sizes_with, .func (PySem.W.fnOf "sizes_with" "sizes_with" (defArgs s_sizes_with) (defBody s_sizes_with) (defScope s_sizes_with) .none kV_sizes_with dc_sizes_with pm_sizes_with an_sizes_with cd_sizes_with ct_sizes_with), sl_sizes_with⟩)
    (e_sizes_with : PySem.W.codeIn K cd_sizes_with "sizes_with" = true)
    (k_sizes_with : PySem.W.keepIn K (.ref f_sizes_with) = true)
    (a_repeated : PySem.W.nsIn K mainGlobals "repeated" = some (some (.ref f_repeated)))
    (l_repeated : K.lookup f_repeated = some ⟨oc_repeated, od_repeated, .func (PySem.W.fnOf "repeated" "repeated" (defArgs s_repeated) (defBody s_repeated) (defScope s_repeated) .none kV_repeated dc_repeated pm_repeated an_repeated cd_repeated ct_repeated), sl_repeated⟩)
    (e_repeated : PySem.W.codeIn K cd_repeated "repeated" = true)
    (k_repeated : PySem.W.keepIn K (.ref f_repeated) = true)
    (a_check_index : PySem.W.nsIn K mainGlobals "check_index" = some (some (.ref f_check_index)))
    (l_check_index : K.lookup f_check_index = some ⟨oc_check_index, od_check_index, .func (PySem.W.fnOf "check_index" "check_index" (defArgs s_check_index) (defBody s_check_index) (defScope s_check_index) .none kV_check_index dc_check_index pm_check_index an_check_index cd_check_index ct_check_index), sl_check_index⟩)
    (e_check_index : PySem.W.codeIn K cd_check_index "check_index" = true)
    (k_check_index : PySem.W.keepIn K (.ref f_check_index) = true)
    (a_taken_to : PySem.W.nsIn K mainGlobals "taken_to" = some (some (.ref f_taken_to)))
    (l_taken_to : K.lookup f_taken_to = some ⟨oc_taken_to, od_taken_to, .func (PySem.W.fnOf "taken_to" "taken_to" (defArgs s_taken_to) (defBody s_taken_to) (defScope s_taken_to) .none kV_taken_to dc_taken_to pm_taken_to an_taken_to cd_taken_to ct_taken_to), sl_taken_to⟩)
    (e_taken_to : PySem.W.codeIn K cd_taken_to "taken_to" = true)
    (k_taken_to : PySem.W.keepIn K (.ref f_taken_to) = true)
    (a_dragged : PySem.W.nsIn K mainGlobals "dragged" = some (some (.ref f_dragged)))
    (l_dragged : K.lookup f_dragged = some ⟨oc_dragged, od_dragged, .func (PySem.W.fnOf "dragged" "dragged" (defArgs s_dragged) (defBody s_dragged) (defScope s_dragged) .none kV_dragged dc_dragged pm_dragged an_dragged cd_dragged ct_dragged), sl_dragged⟩)
    (e_dragged : PySem.W.codeIn K cd_dragged "dragged" = true)
    (k_dragged : PySem.W.keepIn K (.ref f_dragged) = true)
    (a__law_right : PySem.W.nsIn K mainGlobals "_law_right" = some (some (.ref f__law_right)))
    (l__law_right : K.lookup f__law_right = some ⟨oc__law_right, od__law_right, .func (PySem.W.fnOf "_law_right" "_law_right" (defArgs s__law_right) (defBody s__law_right) (defScope s__law_right) .none kV__law_right dc__law_right pm__law_right an__law_right cd__law_right ct__law_right), sl__law_right⟩)
    (e__law_right : PySem.W.codeIn K cd__law_right "_law_right" = true)
    (k__law_right : PySem.W.keepIn K (.ref f__law_right) = true)
    (a__law_sums_right : PySem.W.nsIn K mainGlobals "_law_sums_right" = some (some (.ref f__law_sums_right)))
    (l__law_sums_right : K.lookup f__law_sums_right = some ⟨oc__law_sums_right, od__law_sums_right, .func (PySem.W.fnOf "_law_sums_right" "_law_sums_right" (defArgs s__law_sums_right) (defBody s__law_sums_right) (defScope s__law_sums_right) .none kV__law_sums_right dc__law_sums_right pm__law_sums_right an__law_sums_right cd__law_sums_right ct__law_sums_right), sl__law_sums_right⟩)
    (e__law_sums_right : PySem.W.codeIn K cd__law_sums_right "_law_sums_right" = true)
    (k__law_sums_right : PySem.W.keepIn K (.ref f__law_sums_right) = true)
    (a_law : PySem.W.nsIn K mainGlobals "law" = some (some (.ref f_law)))
    (l_law : K.lookup f_law = some ⟨oc_law, od_law, .func (PySem.W.fnOf "law" "law" (defArgs s_law) (defBody s_law) (defScope s_law) .none kV_law dc_law pm_law an_law cd_law ct_law), sl_law⟩)
    (e_law : PySem.W.codeIn K cd_law "law" = true)
    (k_law : PySem.W.keepIn K (.ref f_law) = true)
    (x_MOST_BOXES : PySem.W.nsIn K mainGlobals "MOST_BOXES" = some (some (.int 40 tk_MOST_BOXES)))
    (x_MOST_DRAGS : PySem.W.nsIn K mainGlobals "MOST_DRAGS" = some (some (.int 40 tk_MOST_DRAGS)))
    (x_MOST_REPEATED : PySem.W.nsIn K mainGlobals "MOST_REPEATED" = some (some (.int 12 tk_MOST_REPEATED)))
    (x_MOST_TIMES : PySem.W.nsIn K mainGlobals "MOST_TIMES" = some (some (.int 1000000000000000000000000000000 tk_MOST_TIMES)))
    (x_abs : PySem.W.nsIn K mainGlobals "abs" = some none)
    (x_all : PySem.W.nsIn K mainGlobals "all" = some none)
    (x_bool : PySem.W.nsIn K mainGlobals "bool" = some none)
    (x_enumerate : PySem.W.nsIn K mainGlobals "enumerate" = some none)
    (x_int : PySem.W.nsIn K mainGlobals "int" = some none)
    (x_isinstance : PySem.W.nsIn K mainGlobals "isinstance" = some none)
    (x_len : PySem.W.nsIn K mainGlobals "len" = some none)
    (x_list : PySem.W.nsIn K mainGlobals "list" = some none)
    (x_max : PySem.W.nsIn K mainGlobals "max" = some none)
    (x_min : PySem.W.nsIn K mainGlobals "min" = some none)
    (x_range : PySem.W.nsIn K mainGlobals "range" = some none)
    (x_reversed : PySem.W.nsIn K mainGlobals "reversed" = some none)
    (x_sum : PySem.W.nsIn K mainGlobals "sum" = some none)
    (x_tuple : PySem.W.nsIn K mainGlobals "tuple" = some none)
    (x_zip : PySem.W.nsIn K mainGlobals "zip" = some none)
    (hmain : ∀ q : Ad, Tx K mg q → ∀ ns : List Int, ns.length ≤ 63 → W_law K (CIof q) [.scr ns] [] fun d _ => d = .bl true) :
    ∃ (fd : FuncData) (C : CI) (W : ZRC), (∀ (s : Shared) (u : Value), BindsTo s fd ⟨[u], []⟩ [("script", u)]) ∧ (∀ base : Heap, K.In base → base.Ns mainGlobals mg → FnG l.prog w K mg base 8 fa fd ["script"] (SpZ K C W)) ∧
      ∀ ns : List Int, ns.length ≤ 63 → W [.scr ns] [] fun d _ => d = .bl true := by
  have e : f_law = fa := by
    have q := (PySem.W.mg_of X G a_law).symm.trans hfa
    cases q
    rfl
  subst e
  let q : Ad := { f__law_fount := f__law_fount, d__law_fount := (PySem.W.fnOf "_law_fount" "_law_fount" (defArgs s__law_fount) (defBody s__law_fount) (defScope s__law_fount) .none kV__law_fount dc__law_fount pm__law_fount an__law_fount cd__law_fount ct__law_fount), f__law_sip := f__law_sip, d__law_sip := (PySem.W.fnOf "_law_sip" "_law_sip" (defArgs s__law_sip) (defBody s__law_sip) (defScope s__law_sip) .none kV__law_sip dc__law_sip pm__law_sip an__law_sip cd__law_sip ct__law_sip), f__law_sizes := f__law_sizes, d__law_sizes := (PySem.W.fnOf "_law_sizes" "_law_sizes" (defArgs s__law_sizes) (defBody s__law_sizes) (defScope s__law_sizes) .none kV__law_sizes dc__law_sizes pm__law_sizes an__law_sizes cd__law_sizes ct__law_sizes), f__law_number := f__law_number, d__law_number := (PySem.W.fnOf "_law_number" "_law_number" (defArgs s__law_number) (defBody s__law_number) (defScope s__law_number) .none kV__law_number dc__law_number pm__law_number an__law_number cd__law_number ct__law_number), f__law_drawn := f__law_drawn, d__law_drawn := (PySem.W.fnOf "_law_drawn" "_law_drawn" (defArgs s__law_drawn) (defBody s__law_drawn) (defScope s__law_drawn) .none kV__law_drawn dc__law_drawn pm__law_drawn an__law_drawn cd__law_drawn ct__law_drawn), f_is_int := f_is_int, d_is_int := (PySem.W.fnOf "is_int" "is_int" (defArgs s_is_int) (defBody s_is_int) (defScope s_is_int) .none kV_is_int dc_is_int pm_is_int an_is_int cd_is_int ct_is_int), f_are_sizes := f_are_sizes, d_are_sizes := (PySem.W.fnOf "are_sizes" "are_sizes" (defArgs s_are_sizes) (defBody s_are_sizes) (defScope s_are_sizes) .none kV_are_sizes dc_are_sizes pm_are_sizes an_are_sizes cd_are_sizes ct_are_sizes), f_frees_of := f_frees_of, d_frees_of := (PySem.W.fnOf "frees_of" "frees_of" (defArgs s_frees_of) (defBody s_frees_of) (defScope s_frees_of) .none kV_frees_of dc_frees_of pm_frees_of an_frees_of cd_frees_of ct_frees_of), f_check_sizes := f_check_sizes, d_check_sizes := (PySem.W.fnOf "check_sizes" "check_sizes" (defArgs s_check_sizes) (defBody s_check_sizes) (defScope s_check_sizes) .none kV_check_sizes dc_check_sizes pm_check_sizes an_check_sizes cd_check_sizes ct_check_sizes), f_is_drag := f_is_drag, d_is_drag := (PySem.W.fnOf "is_drag" "is_drag" (defArgs s_is_drag) (defBody s_is_drag) (defScope s_is_drag) .none kV_is_drag dc_is_drag pm_is_drag an_is_drag cd_is_drag ct_is_drag), f_check_drags := f_check_drags, d_check_drags := (PySem.W.fnOf "check_drags" "check_drags" (defArgs s_check_drags) (defBody s_check_drags) (defScope s_check_drags) .none kV_check_drags dc_check_drags pm_check_drags an_check_drags cd_check_drags ct_check_drags), f_have_one_divider := f_have_one_divider, d_have_one_divider := (PySem.W.fnOf "have_one_divider" "have_one_divider" (defArgs s_have_one_divider) (defBody s_have_one_divider) (defScope s_have_one_divider) .none kV_have_one_divider dc_have_one_divider pm_have_one_divider an_have_one_divider cd_have_one_divider ct_have_one_divider), f_check_directions := f_check_directions, d_check_directions := (PySem.W.fnOf "check_directions" "check_directions" (defArgs s_check_directions) (defBody s_check_directions) (defScope s_check_directions) .none kV_check_directions dc_check_directions pm_check_directions an_check_directions cd_check_directions ct_check_directions), f_limited := f_limited, d_limited := (PySem.W.fnOf "limited" "limited" (defArgs s_limited) (defBody s_limited) (defScope s_limited) .none kV_limited dc_limited pm_limited an_limited cd_limited ct_limited), f_path_of := f_path_of, d_path_of := (PySem.W.fnOf "path_of" "path_of" (defArgs s_path_of) (defBody s_path_of) (defScope s_path_of) .none kV_path_of dc_path_of pm_path_of an_path_of cd_path_of ct_path_of), f_swung := f_swung, d_swung := (PySem.W.fnOf "swung" "swung" (defArgs s_swung) (defBody s_swung) (defScope s_swung) .none kV_swung dc_swung pm_swung an_swung cd_swung ct_swung), f_seen_from_behind := f_seen_from_behind, d_seen_from_behind := (PySem.W.fnOf "seen_from_behind" "seen_from_behind" (defArgs s_seen_from_behind) (defBody s_seen_from_behind) (defScope s_seen_from_behind) .none kV_seen_from_behind dc_seen_from_behind pm_seen_from_behind an_seen_from_behind cd_seen_from_behind ct_seen_from_behind), f_rows_of := f_rows_of, d_rows_of := (PySem.W.fnOf "rows_of" "rows_of" (defArgs s_rows_of) (defBody s_rows_of) (defScope s_rows_of) .none kV_rows_of dc_rows_of pm_rows_of an_rows_of cd_rows_of ct_rows_of), f_one_behind_other := f_one_behind_other, d_one_behind_other := (PySem.W.fnOf "one_behind_other" "one_behind_other" (defArgs s_one_behind_other) (defBody s_one_behind_other) (defScope s_one_behind_other) .none kV_one_behind_other dc_one_behind_other pm_one_behind_other an_one_behind_other cd_one_behind_other ct_one_behind_other), f_many_times := f_many_times, d_many_times := (PySem.W.fnOf "many_times" "many_times" (defArgs s_many_times) (defBody s_many_times) (defScope s_many_times) .none kV_many_times dc_many_times pm_many_times an_many_times cd_many_times ct_many_times), f_lifted_by := f_lifted_by, d_lifted_by := (PySem.W.fnOf "lifted_by" "lifted_by" (defArgs s_lifted_by) (defBody s_lifted_by) (defScope s_lifted_by) .none kV_lifted_by dc_lifted_by pm_lifted_by an_lifted_by cd_lifted_by ct_lifted_by), f_lowered_by := f_lowered_by, d_lowered_by := (PySem.W.fnOf "lowered_by" "lowered_by" (defArgs s_lowered_by) (defBody s_lowered_by) (defScope s_lowered_by) .none kV_lowered_by dc_lowered_by pm_lowered_by an_lowered_by cd_lowered_by ct_lowered_by), f_repeated_heights := f_repeated_heights, d_repeated_heights := (PySem.W.fnOf "repeated_heights" "repeated_heights" (defArgs s_repeated_heights) (defBody s_repeated_heights) (defScope s_repeated_heights) .none kV_repeated_heights dc_repeated_heights pm_repeated_heights an_repeated_heights cd_repeated_heights ct_repeated_heights), f_heights_of := f_heights_of, d_heights_of := (PySem.W.fnOf "heights_of" "heights_of" (defArgs s_heights_of) (defBody s_heights_of) (defScope s_heights_of) .none kV_heights_of dc_heights_of pm_heights_of an_heights_of cd_heights_of ct_heights_of), f_sizes_with := f_sizes_with, d_sizes_with := (PySem.W.fnOf "sizes_with" "sizes_with" (defArgs s_sizes_with) (defBody s_sizes_with) (defScope s_sizes_with) .none kV_sizes_with dc_sizes_with pm_sizes_with an_sizes_with cd_sizes_with ct_sizes_with), f_repeated := f_repeated, d_repeated := (PySem.W.fnOf "repeated" "repeated" (defArgs s_repeated) (defBody s_repeated) (defScope s_repeated) .none kV_repeated dc_repeated pm_repeated an_repeated cd_repeated ct_repeated), f_check_index := f_check_index, d_check_index := (PySem.W.fnOf "check_index" "check_index" (defArgs s_check_index) (defBody s_check_index) (defScope s_check_index) .none kV_check_index dc_check_index pm_check_index an_check_index cd_check_index ct_check_index), f_taken_to := f_taken_to, d_taken_to := (PySem.W.fnOf "taken_to" "taken_to" (defArgs s_taken_to) (defBody s_taken_to) (defScope s_taken_to) .none kV_taken_to dc_taken_to pm_taken_to an_taken_to cd_taken_to ct_taken_to), f_dragged := f_dragged, d_dragged := (PySem.W.fnOf "dragged" "dragged" (defArgs s_dragged) (defBody s_dragged) (defScope s_dragged) .none kV_dragged dc_dragged pm_dragged an_dragged cd_dragged ct_dragged), f__law_right := f__law_right, d__law_right := (PySem.W.fnOf "_law_right" "_law_right" (defArgs s__law_right) (defBody s__law_right) (defScope s__law_right) .none kV__law_right dc__law_right pm__law_right an__law_right cd__law_right ct__law_right), f__law_sums_right := f__law_sums_right, d__law_sums_right := (PySem.W.fnOf "_law_sums_right" "_law_sums_right" (defArgs s__law_sums_right) (defBody s__law_sums_right) (defScope s__law_sums_right) .none kV__law_sums_right dc__law_sums_right pm__law_sums_right an__law_sums_right cd__law_sums_right ct__law_sums_right), f_law := f_law, d_law := (PySem.W.fnOf "law" "law" (defArgs s_law) (defBody s_law) (defScope s_law) .none kV_law dc_law pm_law an_law cd_law ct_law) }
  have T : Tx K mg q := {
    F__law_fount := (fun_mk (st := s__law_fount) l__law_fount e__law_fount k__law_fount)
    b__law_fount := ((fun_mk (st := s__law_fount) l__law_fount e__law_fount k__law_fount).binds (ps := ["script", "k"]) fun _ _ _ _ _ _ us hl => match us, hl with | [_, _], _ => rfl)
    m__law_fount := (PySem.W.mg_of X G a__law_fount)
    F__law_sip := (fun_mk (st := s__law_sip) l__law_sip e__law_sip k__law_sip)
    b__law_sip := ((fun_mk (st := s__law_sip) l__law_sip e__law_sip k__law_sip).binds (ps := ["fount", "many"]) fun _ _ _ _ _ _ us hl => match us, hl with | [_, _], _ => rfl)
    m__law_sip := (PySem.W.mg_of X G a__law_sip)
    F__law_sizes := (fun_mk (st := s__law_sizes) l__law_sizes e__law_sizes k__law_sizes)
    b__law_sizes := ((fun_mk (st := s__law_sizes) l__law_sizes e__law_sizes k__law_sizes).binds (ps := ["fount", "many", "wide"]) fun _ _ _ _ _ _ us hl => match us, hl with | [_, _, _], _ => rfl)
    m__law_sizes := (PySem.W.mg_of X G a__law_sizes)
    F__law_number := (fun_mk (st := s__law_number) l__law_number e__law_number k__law_number)
    b__law_number := ((fun_mk (st := s__law_number) l__law_number e__law_number k__law_number).binds (ps := ["fount", "wide"]) fun _ _ _ _ _ _ us hl => match us, hl with | [_, _], _ => rfl)
    m__law_number := (PySem.W.mg_of X G a__law_number)
    F__law_drawn := (fun_mk (st := s__law_drawn) l__law_drawn e__law_drawn k__law_drawn)
    b__law_drawn := ((fun_mk (st := s__law_drawn) l__law_drawn e__law_drawn k__law_drawn).binds (ps := ["fount", "many", "wide"]) fun _ _ _ _ _ _ us hl => match us, hl with | [_, _, _], _ => rfl)
    m__law_drawn := (PySem.W.mg_of X G a__law_drawn)
    F_is_int := (fun_mk (st := s_is_int) l_is_int e_is_int k_is_int)
    b_is_int := ((fun_mk (st := s_is_int) l_is_int e_is_int k_is_int).binds (ps := ["value"]) fun _ _ _ _ _ _ us hl => match us, hl with | [_], _ => rfl)
    m_is_int := (PySem.W.mg_of X G a_is_int)
    F_are_sizes := (fun_mk (st := s_are_sizes) l_are_sizes e_are_sizes k_are_sizes)
    b_are_sizes := ((fun_mk (st := s_are_sizes) l_are_sizes e_are_sizes k_are_sizes).binds (ps := ["value"]) fun _ _ _ _ _ _ us hl => match us, hl with | [_], _ => rfl)
    m_are_sizes := (PySem.W.mg_of X G a_are_sizes)
    F_frees_of := (fun_mk (st := s_frees_of) l_frees_of e_frees_of k_frees_of)
    b_frees_of := ((fun_mk (st := s_frees_of) l_frees_of e_frees_of k_frees_of).binds (ps := ["sizes", "leasts"]) fun _ _ _ _ _ _ us hl => match us, hl with | [_, _], _ => rfl)
    m_frees_of := (PySem.W.mg_of X G a_frees_of)
    F_check_sizes := (fun_mk (st := s_check_sizes) l_check_sizes e_check_sizes k_check_sizes)
    b_check_sizes := ((fun_mk (st := s_check_sizes) l_check_sizes e_check_sizes k_check_sizes).binds (ps := ["sizes", "leasts"]) fun _ _ _ _ _ _ us hl => match us, hl with | [_, _], _ => rfl)
    m_check_sizes := (PySem.W.mg_of X G a_check_sizes)
    F_is_drag := (fun_mk (st := s_is_drag) l_is_drag e_is_drag k_is_drag)
    b_is_drag := ((fun_mk (st := s_is_drag) l_is_drag e_is_drag k_is_drag).binds (ps := ["value", "many"]) fun _ _ _ _ _ _ us hl => match us, hl with | [_, _], _ => rfl)
    m_is_drag := (PySem.W.mg_of X G a_is_drag)
    F_check_drags := (fun_mk (st := s_check_drags) l_check_drags e_check_drags k_check_drags)
    b_check_drags := ((fun_mk (st := s_check_drags) l_check_drags e_check_drags k_check_drags).binds (ps := ["drags", "many"]) fun _ _ _ _ _ _ us hl => match us, hl with | [_, _], _ => rfl)
    m_check_drags := (PySem.W.mg_of X G a_check_drags)
    F_have_one_divider := (fun_mk (st := s_have_one_divider) l_have_one_divider e_have_one_divider k_have_one_divider)
    b_have_one_divider := ((fun_mk (st := s_have_one_divider) l_have_one_divider e_have_one_divider k_have_one_divider).binds (ps := ["drags"]) fun _ _ _ _ _ _ us hl => match us, hl with | [_], _ => rfl)
    m_have_one_divider := (PySem.W.mg_of X G a_have_one_divider)
    F_check_directions := (fun_mk (st := s_check_directions) l_check_directions e_check_directions k_check_directions)
    b_check_directions := ((fun_mk (st := s_check_directions) l_check_directions e_check_directions k_check_directions).binds (ps := ["drags"]) fun _ _ _ _ _ _ us hl => match us, hl with | [_], _ => rfl)
    m_check_directions := (PySem.W.mg_of X G a_check_directions)
    F_limited := (fun_mk (st := s_limited) l_limited e_limited k_limited)
    b_limited := ((fun_mk (st := s_limited) l_limited e_limited k_limited).binds (ps := ["value", "least", "most"]) fun _ _ _ _ _ _ us hl => match us, hl with | [_, _, _], _ => rfl)
    m_limited := (PySem.W.mg_of X G a_limited)
    F_path_of := (fun_mk (st := s_path_of) l_path_of e_path_of k_path_of)
    b_path_of := ((fun_mk (st := s_path_of) l_path_of e_path_of k_path_of).binds (ps := ["height", "numbers", "top"]) fun _ _ _ _ _ _ us hl => match us, hl with | [_, _, _], _ => rfl)
    m_path_of := (PySem.W.mg_of X G a_path_of)
    F_swung := (fun_mk (st := s_swung) l_swung e_swung k_swung)
    b_swung := ((fun_mk (st := s_swung) l_swung e_swung k_swung).binds (ps := ["heights", "top", "index", "numbers", "times"]) fun _ _ _ _ _ _ us hl => match us, hl with | [_, _, _, _, _], _ => rfl)
    m_swung := (PySem.W.mg_of X G a_swung)
    F_seen_from_behind := (fun_mk (st := s_seen_from_behind) l_seen_from_behind e_seen_from_behind k_seen_from_behind)
    b_seen_from_behind := ((fun_mk (st := s_seen_from_behind) l_seen_from_behind e_seen_from_behind k_seen_from_behind).binds (ps := ["heights", "top"]) fun _ _ _ _ _ _ us hl => match us, hl with | [_, _], _ => rfl)
    m_seen_from_behind := (PySem.W.mg_of X G a_seen_from_behind)
    F_rows_of := (fun_mk (st := s_rows_of) l_rows_of e_rows_of k_rows_of)
    b_rows_of := ((fun_mk (st := s_rows_of) l_rows_of e_rows_of k_rows_of).binds (ps := ["drags", "many"]) fun _ _ _ _ _ _ us hl => match us, hl with | [_, _], _ => rfl)
    m_rows_of := (PySem.W.mg_of X G a_rows_of)
    F_one_behind_other := (fun_mk (st := s_one_behind_other) l_one_behind_other e_one_behind_other k_one_behind_other)
    b_one_behind_other := ((fun_mk (st := s_one_behind_other) l_one_behind_other e_one_behind_other k_one_behind_other).binds (ps := ["first", "second"]) fun _ _ _ _ _ _ us hl => match us, hl with | [_, _], _ => rfl)
    m_one_behind_other := (PySem.W.mg_of X G a_one_behind_other)
    F_many_times := (fun_mk (st := s_many_times) l_many_times e_many_times k_many_times)
    b_many_times := ((fun_mk (st := s_many_times) l_many_times e_many_times k_many_times).binds (ps := ["rows", "times"]) fun _ _ _ _ _ _ us hl => match us, hl with | [_, _], _ => rfl)
    m_many_times := (PySem.W.mg_of X G a_many_times)
    F_lifted_by := (fun_mk (st := s_lifted_by) l_lifted_by e_lifted_by k_lifted_by)
    b_lifted_by := ((fun_mk (st := s_lifted_by) l_lifted_by e_lifted_by k_lifted_by).binds (ps := ["heights", "top", "drags", "times"]) fun _ _ _ _ _ _ us hl => match us, hl with | [_, _, _, _], _ => rfl)
    m_lifted_by := (PySem.W.mg_of X G a_lifted_by)
    F_lowered_by := (fun_mk (st := s_lowered_by) l_lowered_by e_lowered_by k_lowered_by)
    b_lowered_by := ((fun_mk (st := s_lowered_by) l_lowered_by e_lowered_by k_lowered_by).binds (ps := ["heights", "top", "drags", "times"]) fun _ _ _ _ _ _ us hl => match us, hl with | [_, _, _, _], _ => rfl)
    m_lowered_by := (PySem.W.mg_of X G a_lowered_by)
    F_repeated_heights := (fun_mk (st := s_repeated_heights) l_repeated_heights e_repeated_heights k_repeated_heights)
    b_repeated_heights := ((fun_mk (st := s_repeated_heights) l_repeated_heights e_repeated_heights k_repeated_heights).binds (ps := ["heights", "top", "drags", "times"]) fun _ _ _ _ _ _ us hl => match us, hl with | [_, _, _, _], _ => rfl)
    m_repeated_heights := (PySem.W.mg_of X G a_repeated_heights)
    F_heights_of := (fun_mk (st := s_heights_of) l_heights_of e_heights_of k_heights_of)
    b_heights_of := ((fun_mk (st := s_heights_of) l_heights_of e_heights_of k_heights_of).binds (ps := ["sizes", "leasts"]) fun _ _ _ _ _ _ us hl => match us, hl with | [_, _], _ => rfl)
    m_heights_of := (PySem.W.mg_of X G a_heights_of)
    F_sizes_with := (fun_mk (st := s_sizes_with) l_sizes_with e_sizes_with k_sizes_with)
    b_sizes_with := ((fun_mk (st := s_sizes_with) l_sizes_with e_sizes_with k_sizes_with).binds (ps := ["heights", "leasts", "total"]) fun _ _ _ _ _ _ us hl => match us, hl with | [_, _, _], _ => rfl)
    m_sizes_with := (PySem.W.mg_of X G a_sizes_with)
    F_repeated := (fun_mk (st := s_repeated) l_repeated e_repeated k_repeated)
    b_repeated := ((fun_mk (st := s_repeated) l_repeated e_repeated k_repeated).binds (ps := ["sizes", "leasts", "drags", "times"]) fun _ _ _ _ _ _ us hl => match us, hl with | [_, _, _, _], _ => rfl)
    m_repeated := (PySem.W.mg_of X G a_repeated)
    F_check_index := (fun_mk (st := s_check_index) l_check_index e_check_index k_check_index)
    b_check_index := ((fun_mk (st := s_check_index) l_check_index e_check_index k_check_index).binds (ps := ["index", "many"]) fun _ _ _ _ _ _ us hl => match us, hl with | [_, _], _ => rfl)
    m_check_index := (PySem.W.mg_of X G a_check_index)
    F_taken_to := (fun_mk (st := s_taken_to) l_taken_to e_taken_to k_taken_to)
    b_taken_to := ((fun_mk (st := s_taken_to) l_taken_to e_taken_to k_taken_to).binds (ps := ["heights", "index", "height"]) fun _ _ _ _ _ _ us hl => match us, hl with | [_, _, _], _ => rfl)
    m_taken_to := (PySem.W.mg_of X G a_taken_to)
    F_dragged := (fun_mk (st := s_dragged) l_dragged e_dragged k_dragged)
    b_dragged := ((fun_mk (st := s_dragged) l_dragged e_dragged k_dragged).binds (ps := ["sizes", "leasts", "index", "number"]) fun _ _ _ _ _ _ us hl => match us, hl with | [_, _, _, _], _ => rfl)
    m_dragged := (PySem.W.mg_of X G a_dragged)
    F__law_right := (fun_mk (st := s__law_right) l__law_right e__law_right k__law_right)
    b__law_right := ((fun_mk (st := s__law_right) l__law_right e__law_right k__law_right).binds (ps := ["fount", "sizes", "leasts", "drags_here", "many"]) fun _ _ _ _ _ _ us hl => match us, hl with | [_, _, _, _, _], _ => rfl)
    m__law_right := (PySem.W.mg_of X G a__law_right)
    F__law_sums_right := (fun_mk (st := s__law_sums_right) l__law_sums_right e__law_sums_right k__law_sums_right)
    b__law_sums_right := ((fun_mk (st := s__law_sums_right) l__law_sums_right e__law_sums_right k__law_sums_right).binds (ps := ["fount", "sizes", "leasts", "drags_here", "many"]) fun _ _ _ _ _ _ us hl => match us, hl with | [_, _, _, _, _], _ => rfl)
    m__law_sums_right := (PySem.W.mg_of X G a__law_sums_right)
    F_law := (fun_mk (st := s_law) l_law e_law k_law)
    b_law := ((fun_mk (st := s_law) l_law e_law k_law).binds (ps := ["script"]) fun _ _ _ _ _ _ us hl => match us, hl with | [_], _ => rfl)
    m_law := (PySem.W.mg_of X G a_law)
    c_MOST_BOXES := (⟨_, PySem.W.mg_of X G x_MOST_BOXES⟩)
    c_MOST_DRAGS := (⟨_, PySem.W.mg_of X G x_MOST_DRAGS⟩)
    c_MOST_REPEATED := (⟨_, PySem.W.mg_of X G x_MOST_REPEATED⟩)
    c_MOST_TIMES := (⟨_, PySem.W.mg_of X G x_MOST_TIMES⟩)
    n_abs := (PySem.W.mg_none_of X G x_abs)
    n_all := (PySem.W.mg_none_of X G x_all)
    n_bool := (PySem.W.mg_none_of X G x_bool)
    n_enumerate := (PySem.W.mg_none_of X G x_enumerate)
    n_int := (PySem.W.mg_none_of X G x_int)
    n_isinstance := (PySem.W.mg_none_of X G x_isinstance)
    n_len := (PySem.W.mg_none_of X G x_len)
    n_list := (PySem.W.mg_none_of X G x_list)
    n_max := (PySem.W.mg_none_of X G x_max)
    n_min := (PySem.W.mg_none_of X G x_min)
    n_range := (PySem.W.mg_none_of X G x_range)
    n_reversed := (PySem.W.mg_none_of X G x_reversed)
    n_sum := (PySem.W.mg_none_of X G x_sum)
    n_tuple := (PySem.W.mg_none_of X G x_tuple)
    n_zip := (PySem.W.mg_none_of X G x_zip) }
  exact ⟨q.d_law, CIof q, W_law K (CIof q), fun s u => .of_eq rfl, fun base _ _ => fng_of (ok_law T), hmain q T⟩
end Bx

namespace Bx
open PySem PySem.Spec PyProof.Rows L2 Z
local macro_rules | `(tactic| walk_at "zz") => `(tactic| simp only [zSeq, zAsg, zRet, zRetN, zIfS, zNext, zDrop, zPar, zPar3, zVar, zC, zOp, zUn, zNeg, zI0, zI, zTest, zAnd, zOr, zNot, zAndV, zOrV, zNotV, zIf, zNil, zCons, zTup, zLst, zLstC, zgName, zgTup, zgCons, zgNil, zgSub, startZ, zCall, zCB, zChain, zIsN, zNotN, zNever,
  zAddA, zMulA, zRepeat, zCat, zIx, seqD, lstD, zMax2, zMin2, zAbs, zLen, zSum, zGcd, zInt, zYes, zBreak, zCont, zMin1, zMax1, zList, zListC, zLcC, zLc, ziR1, ziR2, ziList, ziTup, ziZip, ziEnum, wipeZ, zFor, zSl, zPart, zNoPart, zAppend, zLstR1, zLstR2, zCallBC, zCallBF,
  at0, at1, at2, at3, at4, ix2_3, ix0_3, isNon_int, isNon_non, Bool.not_true, Bool.not_false,
  List.map_cons, List.map_nil, List.length_cons, List.length_nil, List.replicate_succ, List.replicate_zero, List.append_nil, List.nil_append, List.cons_append, List.getElem?_cons_zero, List.getElem?_cons_succ, List.set_cons_zero, List.set_cons_succ,
  Option.some.injEq, D.int.injEq, D.bl.injEq, D.tup.injEq, D.lst.injEq, D.str.injEq, D.cell.injEq, O.lst.injEq, reduceCtorEq, exists_eq_left', exists_eq_left, false_and, and_false, true_and, and_true, exists_false, or_false, false_or, exists_and_left, exists_eq', exists_and_right, List.cons.injEq, and_assoc, dec_not, dec_yes, nd_t, nd_f, t_t, t_f, f_t, f_f, true_implies, false_implies, implies_true, and_self, Nat.reduceAdd, Nat.reduceLeDiff, Nat.reduceSub, Nat.reduceLT])
local macro_rules | `(tactic| walk_at "zy") => `(tactic| try simp only [Option.some.injEq, D.int.injEq, D.bl.injEq, D.tup.injEq, D.lst.injEq, D.str.injEq, D.cell.injEq, O.lst.injEq, reduceCtorEq, exists_eq_left', exists_eq_left, false_and, and_false, true_and, and_true, exists_false, or_false, false_or, exists_and_left, exists_eq', exists_and_right, List.cons.injEq, and_assoc, dec_not, dec_yes, nd_t, nd_f, t_t, t_f, f_t, f_f, true_implies, false_implies, implies_true, and_self])
theorem main {K : PySem.W.Frag} {mg : Str → Option Value} {q : Ad} (T : Tx K mg q) : ∀ ns : List Int, ns.length ≤ 63 → W_law K (CIof q) [.scr ns] [] fun d _ => d = .bl true := fun ns hl => law_ok hl
end Bx

open PySem PySem.W PyProof.Rows
set_option maxRecDepth 100000 in
set_option maxHeartbeats 0 in
set_option pp.maxSteps 60 in
set_option pp.deepTerms false in
theorem PySem.Challenge.cw_boxrows_k82_whole_repeated_drags_holds : PySem.Challenge.rw_boxrows_k82_whole_repeated_drags.Holds := by
  w_on; o_law; k_head; (case hw => w_witness2)
  k_fill
  refine Z.walkZ (l := PySem.Challenge.rw_boxrows_k82_whole_repeated_drags) (n := 63) (k := 8) (x := "script") rfl (by decide) rfl ⟨rfl, by decide, by decide⟩ (fun w h Y => PySem.W.kIn_of Y) ?F
  case F =>
    intro w mg fa h KX Gm hmg
    refine' Bx.all_mk KX Gm hmg ?a__law_fount ?l__law_fount ?e__law_fount ?k__law_fount ?a__law_sip ?l__law_sip ?e__law_sip ?k__law_sip ?a__law_sizes ?l__law_sizes ?e__law_sizes ?k__law_sizes ?a__law_number ?l__law_number ?e__law_number ?k__law_number ?a__law_drawn ?l__law_drawn ?e__law_drawn ?k__law_drawn ?a_is_int ?l_is_int ?e_is_int ?k_is_int ?a_are_sizes ?l_are_sizes ?e_are_sizes ?k_are_sizes ?a_frees_of ?l_frees_of ?e_frees_of ?k_frees_of ?a_check_sizes ?l_check_sizes ?e_check_sizes ?k_check_sizes ?a_is_drag ?l_is_drag ?e_is_drag ?k_is_drag ?a_check_drags ?l_check_drags ?e_check_drags ?k_check_drags ?a_have_one_divider ?l_have_one_divider ?e_have_one_divider ?k_have_one_divider ?a_check_directions ?l_check_directions ?e_check_directions ?k_check_directions ?a_limited ?l_limited ?e_limited ?k_limited ?a_path_of ?l_path_of ?e_path_of ?k_path_of ?a_swung ?l_swung ?e_swung ?k_swung ?a_seen_from_behind ?l_seen_from_behind ?e_seen_from_behind ?k_seen_from_behind ?a_rows_of ?l_rows_of ?e_rows_of ?k_rows_of ?a_one_behind_other ?l_one_behind_other ?e_one_behind_other ?k_one_behind_other ?a_many_times ?l_many_times ?e_many_times ?k_many_times ?a_lifted_by ?l_lifted_by ?e_lifted_by ?k_lifted_by ?a_lowered_by ?l_lowered_by ?e_lowered_by ?k_lowered_by ?a_repeated_heights ?l_repeated_heights ?e_repeated_heights ?k_repeated_heights ?a_heights_of ?l_heights_of ?e_heights_of ?k_heights_of ?a_sizes_with ?l_sizes_with ?e_sizes_with ?k_sizes_with ?a_repeated ?l_repeated ?e_repeated ?k_repeated ?a_check_index ?l_check_index ?e_check_index ?k_check_index ?a_taken_to ?l_taken_to ?e_taken_to ?k_taken_to ?a_dragged ?l_dragged ?e_dragged ?k_dragged ?a__law_right ?l__law_right ?e__law_right ?k__law_right ?a__law_sums_right ?l__law_sums_right ?e__law_sums_right ?k__law_sums_right ?a_law ?l_law ?e_law ?k_law ?x_MOST_BOXES ?x_MOST_DRAGS ?x_MOST_REPEATED ?x_MOST_TIMES ?x_abs ?x_all ?x_bool ?x_enumerate ?x_int ?x_isinstance ?x_len ?x_list ?x_max ?x_min ?x_range ?x_reversed ?x_sum ?x_tuple ?x_zip ?main
    (case a__law_fount => k_is)
    (case l__law_fount => k_is)
    (case e__law_fount => k_is)
    (case k__law_fount => k_is)
    (case a__law_sip => k_is)
    (case l__law_sip => k_is)
    (case e__law_sip => k_is)
    (case k__law_sip => k_is)
    (case a__law_sizes => k_is)
    (case l__law_sizes => k_is)
    (case e__law_sizes => k_is)
    (case k__law_sizes => k_is)
    (case a__law_number => k_is)
    (case l__law_number => k_is)
    (case e__law_number => k_is)
    (case k__law_number => k_is)
    (case a__law_drawn => k_is)
    (case l__law_drawn => k_is)
    (case e__law_drawn => k_is)
    (case k__law_drawn => k_is)
    (case a_is_int => k_is)
    (case l_is_int => k_is)
    (case e_is_int => k_is)
    (case k_is_int => k_is)
    (case a_are_sizes => k_is)
    (case l_are_sizes => k_is)
    (case e_are_sizes => k_is)
    (case k_are_sizes => k_is)
    (case a_frees_of => k_is)
    (case l_frees_of => k_is)
    (case e_frees_of => k_is)
    (case k_frees_of => k_is)
    (case a_check_sizes => k_is)
    (case l_check_sizes => k_is)
    (case e_check_sizes => k_is)
    (case k_check_sizes => k_is)
    (case a_is_drag => k_is)
    (case l_is_drag => k_is)
    (case e_is_drag => k_is)
    (case k_is_drag => k_is)
    (case a_check_drags => k_is)
    (case l_check_drags => k_is)
    (case e_check_drags => k_is)
    (case k_check_drags => k_is)
    (case a_have_one_divider => k_is)
    (case l_have_one_divider => k_is)
    (case e_have_one_divider => k_is)
    (case k_have_one_divider => k_is)
    (case a_check_directions => k_is)
    (case l_check_directions => k_is)
    (case e_check_directions => k_is)
    (case k_check_directions => k_is)
    (case a_limited => k_is)
    (case l_limited => k_is)
    (case e_limited => k_is)
    (case k_limited => k_is)
    (case a_path_of => k_is)
    (case l_path_of => k_is)
    (case e_path_of => k_is)
    (case k_path_of => k_is)
    (case a_swung => k_is)
    (case l_swung => k_is)
    (case e_swung => k_is)
    (case k_swung => k_is)
    (case a_seen_from_behind => k_is)
    (case l_seen_from_behind => k_is)
    (case e_seen_from_behind => k_is)
    (case k_seen_from_behind => k_is)
    (case a_rows_of => k_is)
    (case l_rows_of => k_is)
    (case e_rows_of => k_is)
    (case k_rows_of => k_is)
    (case a_one_behind_other => k_is)
    (case l_one_behind_other => k_is)
    (case e_one_behind_other => k_is)
    (case k_one_behind_other => k_is)
    (case a_many_times => k_is)
    (case l_many_times => k_is)
    (case e_many_times => k_is)
    (case k_many_times => k_is)
    (case a_lifted_by => k_is)
    (case l_lifted_by => k_is)
    (case e_lifted_by => k_is)
    (case k_lifted_by => k_is)
    (case a_lowered_by => k_is)
    (case l_lowered_by => k_is)
    (case e_lowered_by => k_is)
    (case k_lowered_by => k_is)
    (case a_repeated_heights => k_is)
    (case l_repeated_heights => k_is)
    (case e_repeated_heights => k_is)
    (case k_repeated_heights => k_is)
    (case a_heights_of => k_is)
    (case l_heights_of => k_is)
    (case e_heights_of => k_is)
    (case k_heights_of => k_is)
    (case a_sizes_with => k_is)
    (case l_sizes_with => k_is)
    (case e_sizes_with => k_is)
    (case k_sizes_with => k_is)
    (case a_repeated => k_is)
    (case l_repeated => k_is)
    (case e_repeated => k_is)
    (case k_repeated => k_is)
    (case a_check_index => k_is)
    (case l_check_index => k_is)
    (case e_check_index => k_is)
    (case k_check_index => k_is)
    (case a_taken_to => k_is)
    (case l_taken_to => k_is)
    (case e_taken_to => k_is)
    (case k_taken_to => k_is)
    (case a_dragged => k_is)
    (case l_dragged => k_is)
    (case e_dragged => k_is)
    (case k_dragged => k_is)
    (case a__law_right => k_is)
    (case l__law_right => k_is)
    (case e__law_right => k_is)
    (case k__law_right => k_is)
    (case a__law_sums_right => k_is)
    (case l__law_sums_right => k_is)
    (case e__law_sums_right => k_is)
    (case k__law_sums_right => k_is)
    (case a_law => k_is)
    (case l_law => k_is)
    (case e_law => k_is)
    (case k_law => k_is)
    (case x_MOST_BOXES => k_is)
    (case x_MOST_DRAGS => k_is)
    (case x_MOST_REPEATED => k_is)
    (case x_MOST_TIMES => k_is)
    (case x_abs => k_is)
    (case x_all => k_is)
    (case x_bool => k_is)
    (case x_enumerate => k_is)
    (case x_int => k_is)
    (case x_isinstance => k_is)
    (case x_len => k_is)
    (case x_list => k_is)
    (case x_max => k_is)
    (case x_min => k_is)
    (case x_range => k_is)
    (case x_reversed => k_is)
    (case x_sum => k_is)
    (case x_tuple => k_is)
    (case x_zip => k_is)
    (case main => exact fun q T => Bx.main T)
